package raw

import (
	"bytes"
	"math"
	"reflect"
	"strings"
	"testing"

	"gantry/api"
)

// turns tells numbers that look like any others, the same in each run.
type turns uint64

func (s *turns) next(n int) int {
	*s = *s*6364136223846793005 + 1442695040888963407
	return int(uint64(*s) >> 33 % uint64(n))
}

func (s *turns) count() int {
	if s.next(2) == 0 {
		return s.next(20)
	}
	near := 1 << (7 * (1 + s.next(4)))
	return []int{near - 1, near, near + 1, s.next(math.MaxInt32), math.MaxInt32}[s.next(5)]
}

func (s *turns) counts() (l []int) {
	for range s.next(4) {
		l = append(l, s.count())
	}
	return l
}

func (s *turns) number() int64 {
	n := int64(s.next(1<<31))<<33 | int64(s.next(1<<31))<<2 | int64(s.next(4))
	if s.next(10) == 0 {
		return []int64{math.MinInt64, math.MaxInt64, math.MinInt32, 1 << 62}[s.next(4)]
	}
	return n >> s.next(64)
}

func (s *turns) text() string {
	switch s.next(6) {
	case 0:
		return strings.Repeat(string(rune(s.next(300))), s.next(api.MaxText/2+1))
	case 1:
		return string([]byte{byte(s.next(256)), byte(s.next(256))})
	}
	return ""
}

func (s *turns) terms(nest int) (l []api.Expr) {
	for range min(nest, s.next(3)) {
		l = append(l, api.Expr{Op: s.count(), T: s.count(), N: s.number(), S: s.text(), Args: s.terms(nest - 1)})
	}
	return l
}

func (s *turns) statements(nest int) (l []api.Stmt) {
	for range min(nest, s.next(3)) {
		l = append(l, api.Stmt{Op: s.count(), N: s.number(), Args: s.terms(nest - 1), Dst: s.counts(), A: s.statements(nest - 1), B: s.statements(nest - 1)})
	}
	return l
}

// program tells one of few or some hundred nodes.
func (s *turns) program() (p api.Program) {
	for range s.next(4) {
		p.Types = append(p.Types, api.Type{Kind: s.count(), Elem: s.count(), N: s.count(), Fields: s.counts()})
	}
	for range s.next(4) {
		p.Funcs = append(p.Funcs, api.Func{Params: s.count(), Locals: s.counts(), Results: s.counts(), Body: s.statements(1 + s.next(6))})
	}
	return p
}

// against holds Decode of bytes against the model, and, if it takes them, Encode of that against them.
func against(t *testing.T, b []byte) api.Errno {
	t.Helper()
	p, e := Decode(b)
	q, want := take(b)
	if e != want || !reflect.DeepEqual(p, q) {
		t.Fatalf("% x:\n%+v, %d, not\n%+v, %d", b, p, e, q, want)
	}
	if e == api.OK {
		if again, e := Encode(p); e != api.OK || !bytes.Equal(again, b) {
			t.Fatalf("% x: again % x, %d", b, again, e)
		}
	}
	return e
}

// TestBothWays: P8.1, P8.2: many programs: their bytes are the model's, and tell the program.
func TestBothWays(t *testing.T) {
	s := turns(8)
	most := 0
	for range 5000 {
		p := s.program()
		b, e := Encode(p)
		if e != api.OK || !bytes.Equal(b, lay(p)) {
			t.Fatalf("%+v:\n% x, %d, not\n% x", p, b, e, lay(p))
		}
		q, e := Decode(b)
		if e != api.OK || !reflect.DeepEqual(p, q) {
			t.Fatalf("% x:\n%+v, %d, not\n%+v", b, q, e, p)
		}
		most = max(most, len(b))
	}
	if most < 1000 {
		t.Errorf("no more than %d bytes", most)
	}
}

// spoil changes bytes at one place or some, as one that wrote them down wrongly would.
func (s *turns) spoil(b []byte) []byte {
	at := s.next(len(b))
	odd := []byte{0, 1, 2, 7, 8, 0x7f, 0x80, 0x81, 0xff, byte(s.next(256))}[s.next(10)]
	switch s.next(5) {
	case 0:
		return append(append(bytes.Clone(b[:at]), odd), b[at:]...)
	case 1:
		return append(bytes.Clone(b[:at]), b[at+1:]...)
	case 2:
		return append(append(bytes.Clone(b[:at]), bytes.Repeat([]byte{odd}, 1+s.next(11))...), b[at:]...)
	case 3:
		from := s.next(len(b))
		return append(bytes.Clone(b[:at]), b[from:]...)
	}
	out := bytes.Clone(b)
	out[at] = odd
	return out
}

// TestSpoiled: P8.1, P8.2: many programs' bytes, changed here and there.
func TestSpoiled(t *testing.T) {
	s := turns(9)
	seen := make(map[api.Errno]int)
	for range 2000 {
		b, _ := Encode(s.program())
		for range 30 {
			c := s.spoil(b)
			for s.next(3) == 0 && len(c) > 0 {
				c = s.spoil(c)
			}
			seen[against(t, c)]++
		}
	}
	for _, e := range []api.Errno{api.OK, api.ErrRawShort, api.ErrRawForm, api.ErrRawRest} {
		if seen[e] < 1000 {
			t.Errorf("%d: no more than %d times", e, seen[e])
		}
	}
}

// TestSpoiledLarge: P8.1, P8.2: bytes near MaxNodes and MaxNest, changed here and there.
func TestSpoiledLarge(t *testing.T) {
	s := turns(10)
	seen := make(map[api.Errno]int)
	for n := range 600 {
		wide := make([]api.Stmt, api.MaxNodes-2*api.MaxNest+s.next(70))
		p := body(append(wide, tower(api.MaxNest-1+s.next(3), n%4), tower(api.MaxNest, s.next(4)))...)
		b := lay(p)
		_, e := Encode(p)
		f := against(t, b)
		if (f == api.OK) != (e == api.OK) {
			t.Fatalf("%d, and as bytes %d", e, f)
		}
		seen[f]++
		head := len(b) - 1000
		seen[against(t, append(bytes.Clone(b[:head]), s.spoil(b[head:])...))]++
	}
	for _, e := range []api.Errno{api.OK, api.ErrRawShort, api.ErrRawForm, api.ErrRawMany, api.ErrRawDeep, api.ErrRawRest} {
		if seen[e] < 10 {
			t.Errorf("%d: no more than %d times", e, seen[e])
		}
	}
}

// TestAllShort: P8.1, P8.2: all bytes of some length, and all of few sorts that are longer.
func TestAllShort(t *testing.T) {
	var every []byte
	for c := range 256 {
		every = append(every, byte(c))
	}
	taken := 0
	var grow func(b, sorts []byte, most int)
	grow = func(b, sorts []byte, most int) {
		if against(t, b) == api.OK {
			taken++
		}
		if most == 0 {
			return
		}
		for _, c := range sorts {
			grow(append(b[:len(b):len(b)], c), sorts, most-1)
		}
	}
	grow(nil, every, 2)
	grow(nil, []byte{0, 1, 2, 7, 8, 0x80, 0xff}, 6)
	grow([]byte{0, 1, 0, 0, 0}, []byte{0, 1, 0x80}, 11)
	grow([]byte{0, 1, 0, 0, 0, 1, 0, 0, 1}, []byte{0, 1, 2}, 10)
	grow([]byte{0, 1, 0, 0, 0, 1, 0, 0xff, 0xff, 0xff, 0xff, 0xff, 0xff, 0xff, 0xff}, []byte{0, 1, 2, 0x7f, 0x80, 0x81, 0xff}, 3)
	if taken < 100 {
		t.Errorf("no more than %d programs", taken)
	}
}

// TestNothingShared: R1, R2: what is handed in is neither changed nor kept; what is told is new, spare room too.
func TestNothingShared(t *testing.T) {
	s := turns(11)
	for range 500 {
		p := s.program()
		b, _ := Encode(p)
		first := bytes.Clone(b)
		q, _ := Decode(b)
		if !bytes.Equal(b, first) {
			t.Fatalf("Decode changed its bytes: % x, and before % x", b, first)
		}
		for i := range b[:cap(b)] {
			b[:cap(b)][i] ^= 0xff
		}
		if !reflect.DeepEqual(p, q) {
			t.Fatalf("bytes are kept: %+v, not %+v", q, p)
		}
		if again, e := Encode(p); e != api.OK || !bytes.Equal(again, first) {
			t.Fatalf("% x, %d, and before % x", again, e, first)
		}
		other, _ := Decode(first)
		overwrite(q)
		if !reflect.DeepEqual(p, other) {
			t.Fatalf("what was told is one with another: %+v, not %+v", other, p)
		}
	}
}

// fill writes into a list, and behind it.
func fill[T any](l []T, x T) {
	l = append(l, x)
	for i := range l {
		l[i] = x
	}
}

func overwrite(p api.Program) {
	for _, x := range p.Types {
		fill(x.Fields, -5)
	}
	for _, f := range p.Funcs {
		fill(f.Locals, -5)
		fill(f.Results, -5)
		for _, s := range f.Body {
			fill(s.Args, api.Expr{Op: -5})
			fill(s.Dst, -5)
			fill(s.A, api.Stmt{Op: -5})
			fill(s.B, api.Stmt{Op: -5})
		}
		fill(f.Body, api.Stmt{Op: -5})
	}
	fill(p.Types, api.Type{Kind: -5})
	fill(p.Funcs, api.Func{Params: -5})
}

// numbered is a program each of whose parts is told by a number of its own.
func numbered() api.Program {
	next := 0
	n := func() int { next++; return next }
	var term func(nest int) []api.Expr
	term = func(nest int) (l []api.Expr) {
		for range min(nest, 3) {
			l = append(l, api.Expr{Op: n(), T: n(), N: int64(n()), Args: term(nest - 1)})
		}
		return l
	}
	var statement func(nest int) []api.Stmt
	statement = func(nest int) (l []api.Stmt) {
		for range min(nest, 3) {
			l = append(l, api.Stmt{Op: n(), N: int64(n()), Args: term(nest - 1), Dst: []int{n(), n(), n()}, A: statement(nest - 1), B: statement(nest - 1)})
		}
		return l
	}
	p := api.Program{}
	for range 3 {
		p.Types = append(p.Types, api.Type{Kind: n(), Elem: n(), N: n(), Fields: []int{n(), n(), n()}})
		p.Funcs = append(p.Funcs, api.Func{Params: n(), Locals: []int{n(), n(), n()}, Results: []int{n(), n(), n()}, Body: statement(3)})
	}
	return p
}

// TestListsApart: R2: to append to one list of a program that was told changes no other one.
func TestListsApart(t *testing.T) {
	p := numbered()
	b, e := Encode(p)
	q, f := Decode(b)
	if e != api.OK || f != api.OK {
		t.Fatalf("%d, %d", e, f)
	}
	var terms func(l []api.Expr)
	terms = func(l []api.Expr) {
		_ = append(l, api.Expr{Op: -7}, api.Expr{Op: -7})
		for _, x := range l {
			terms(x.Args)
		}
	}
	var statements func(l []api.Stmt)
	statements = func(l []api.Stmt) {
		_ = append(l, api.Stmt{Op: -7}, api.Stmt{Op: -7})
		for _, s := range l {
			_ = append(s.Dst, -7, -7)
			terms(s.Args)
			statements(s.A)
			statements(s.B)
		}
	}
	for _, x := range q.Types {
		_ = append(x.Fields, -7, -7)
	}
	for _, f := range q.Funcs {
		_, _ = append(f.Locals, -7, -7), append(f.Results, -7, -7)
		statements(f.Body)
	}
	_, _ = append(q.Types, api.Type{Kind: -7}), append(q.Funcs, api.Func{Params: -7})
	if !reflect.DeepEqual(p, q) {
		t.Errorf("%+v, not %+v", q, p)
	}
}
