package raw

import (
	"bytes"
	"encoding/binary"
	"math"
	"slices"

	"gantry/api"
)

// lay tells a program's bytes as the chapter's table does; it asks nothing of the program. The library's Varint is the chapter's number.
func lay(p api.Program) []byte {
	b := binary.AppendUvarint(nil, uint64(len(p.Types)))
	for _, x := range p.Types {
		b = layCounts(b, x.Kind, x.Elem, x.N, len(x.Fields))
		b = layCounts(b, x.Fields...)
	}
	b = layCounts(b, len(p.Funcs))
	for _, f := range p.Funcs {
		b = layCounts(layCounts(b, f.Params, len(f.Locals)), f.Locals...)
		b = layCounts(layCounts(b, len(f.Results)), f.Results...)
		b = layStatements(b, f.Body)
	}
	return b
}

func layCounts(b []byte, l ...int) []byte {
	for _, n := range l {
		b = binary.AppendUvarint(b, uint64(n))
	}
	return b
}

func layStatements(b []byte, l []api.Stmt) []byte {
	b = layCounts(b, len(l))
	for _, s := range l {
		b = binary.AppendVarint(layCounts(b, s.Op), s.N)
		b = layTerms(b, s.Args)
		b = layCounts(layCounts(b, len(s.Dst)), s.Dst...)
		b = layStatements(layStatements(b, s.A), s.B)
	}
	return b
}

func layTerms(b []byte, l []api.Expr) []byte {
	b = layCounts(b, len(l))
	for _, x := range l {
		b = binary.AppendVarint(layCounts(b, x.Op, x.T), x.N)
		b = append(layCounts(b, len(x.S)), x.S...)
		b = layTerms(b, x.Args)
	}
	return b
}

// model takes bytes as the chapter says, and keeps the first error: behind it, everything is 0.
type model struct {
	b     []byte
	e     api.Errno
	nodes int
}

// take tells the program whose bytes these are, or the first error.
func take(b []byte) (p api.Program, e api.Errno) {
	m := &model{b: b}
	for range m.many() {
		x := api.Type{Kind: m.count(), Elem: m.count(), N: m.count()}
		x.Fields = m.counts()
		p.Types = append(p.Types, x)
	}
	for range m.many() {
		f := api.Func{Params: m.count()}
		f.Locals = m.counts()
		f.Results = m.counts()
		f.Body = m.statements(0)
		p.Funcs = append(p.Funcs, f)
	}
	if len(m.b) > 0 {
		m.wrong(api.ErrRawRest)
	}
	if m.e != api.OK {
		return api.Program{}, m.e
	}
	return p, api.OK
}

func (m *model) wrong(e api.Errno) uint64 {
	if m.e == api.OK {
		m.e = e
	}
	m.b = nil
	return 0
}

// bits holds what the library reads against what it would write.
func (m *model) bits(most int) uint64 {
	if m.e != api.OK {
		return 0
	}
	head := m.b[:min(most, len(m.b))]
	end := slices.IndexFunc(head, func(c byte) bool { return c < 128 })
	switch {
	case end < 0 && len(head) < most:
		return m.wrong(api.ErrRawShort)
	case end < 0:
		return m.wrong(api.ErrRawForm)
	}
	head = head[:end+1]
	x, n := binary.Uvarint(head)
	if n <= 0 || !bytes.Equal(binary.AppendUvarint(nil, x), head) {
		return m.wrong(api.ErrRawForm)
	}
	m.b = m.b[n:]
	return x
}

func (m *model) count() int {
	x := m.bits(5)
	if x > math.MaxInt32 {
		x = m.wrong(api.ErrRawForm)
	}
	return int(x)
}

func (m *model) number() int64 {
	x, _ := binary.Varint(binary.AppendUvarint(nil, m.bits(10)))
	return x
}

func (m *model) many() int {
	n := m.count()
	if n > len(m.b) {
		return int(m.wrong(api.ErrRawShort))
	}
	return n
}

func (m *model) counts() (l []int) {
	for range m.many() {
		l = append(l, m.count())
	}
	return l
}

// node tells whether to read on.
func (m *model) node(deep int) bool {
	m.nodes++
	if m.e == api.OK && m.nodes > api.MaxNodes {
		m.wrong(api.ErrRawMany)
	}
	if m.e == api.OK && deep > api.MaxNest {
		m.wrong(api.ErrRawDeep)
	}
	return m.e == api.OK
}

func (m *model) statements(around int) (l []api.Stmt) {
	for n := m.many(); len(l) < n && m.node(around+1); {
		s := api.Stmt{Op: m.count(), N: m.number()}
		s.Args = m.terms(around + 1)
		s.Dst = m.counts()
		s.A = m.statements(around + 1)
		s.B = m.statements(around + 1)
		l = append(l, s)
	}
	return l
}

func (m *model) terms(around int) (l []api.Expr) {
	for n := m.many(); len(l) < n && m.node(around+1); {
		x := api.Expr{Op: m.count(), T: m.count(), N: m.number()}
		n := m.many()
		if n > api.MaxText {
			n = int(m.wrong(api.ErrRawForm))
		}
		x.S, m.b = string(m.b[:n]), m.b[n:]
		x.Args = m.terms(around + 1)
		l = append(l, x)
	}
	return l
}
