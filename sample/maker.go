package sample

import (
	"slices"

	"gantry/api"
)

// maker makes a Code whose blocks have their shape already.
type maker struct {
	*Turns
	u      api.Unit
	c      api.Code
	doms   [][]int // of each block its dominators, itself last
	order  []int   // blocks that are no holes, each one's dominators ahead of it
	writes []bool  // of each block whether it may make memory
	phis   []bool  // of each block whether it has an OpPhi of KindMem
	end    []int   // of each block the memory at its end
}

func newMaker(t *Turns, u api.Unit, number int) *maker {
	m := &maker{Turns: t, u: u, c: u.Codes[number]}
	m.c.Blocks = shape(t)
	m.doms = dominators(m.c.Blocks)
	m.writes, m.phis, m.end = make([]bool, len(m.doms)), make([]bool, len(m.doms)), make([]int, len(m.doms))
	often := 1 + t.Next(4)
	for b, x := range m.c.Blocks {
		m.writes[b] = t.Next(often) == 0
		if x.Kind != api.BlockNone {
			m.order = append(m.order, b)
		}
	}
	slices.SortStableFunc(m.order, func(x, y int) int { return len(m.doms[x]) - len(m.doms[y]) })
	for _, b := range m.order[1:] {
		m.phis[b] = t.Next(6) == 0
	}
	for m.join() {
	}
	return m
}

// join finds a block that two memories come to, and gives it an OpPhi; false, if there is none. A memory is told apart by the block that made it.
func (m *maker) join() bool {
	begin, end := make([]int, len(m.doms)), make([]int, len(m.doms))
	for _, b := range m.order {
		begin[b] = 2 * b
		if b != 0 && !m.phis[b] {
			begin[b] = end[m.above(b)]
		}
		end[b] = begin[b]
		if m.writes[b] {
			end[b] = 2*b + 1
		}
	}
	for _, b := range m.order {
		for _, p := range m.c.Blocks[b].Preds {
			if !m.phis[b] && end[p] != begin[b] {
				m.phis[b] = true
				return true
			}
		}
	}
	return false
}

// above tells the immediate dominator.
func (m *maker) above(b int) int { return m.doms[b][len(m.doms[b])-2] }

// add lays a value behind all others of a block.
func (m *maker) add(b, op, kind int, n int64, args ...int) int {
	m.c.Values = append(m.c.Values, api.Value{Op: op, Kind: kind, N: n, Args: args})
	number := len(m.c.Values) - 1
	m.c.Blocks[b].List = append(m.c.Blocks[b].List, number)
	return number
}

// one tells a value of that kind that is there at the end of block b, as far as it is filled. Of each kind block 0 has one.
func (m *maker) one(b, kind int) int {
	var l []int
	for _, d := range m.doms[b] {
		for _, n := range m.c.Blocks[d].List {
			if m.c.Values[n].Kind == kind {
				l = append(l, n)
			}
		}
	}
	if t := len(l); t > 4 && m.Next(2) == 0 {
		l = l[t-4:]
	}
	return Pick(m.Turns, l)
}

// fill gives a block its values, but for what its OpPhis take.
func (m *maker) fill(b int) {
	if b == 0 {
		m.begin()
	} else {
		m.end[b] = m.end[m.above(b)]
		m.merge(b)
	}
	for range m.Next(8) {
		if m.writes[b] && m.Next(3) == 0 {
			m.write(b)
		} else {
			m.pure(b)
		}
	}
}

// begin lays what stands in block 0 alone, and a value of each kind.
func (m *maker) begin() {
	m.end[0] = m.add(0, api.OpInit, api.KindMem, 0)
	for i, k := range m.c.Params {
		m.add(0, api.OpArg, k, int64(i))
	}
	for k := api.KindBool; k < api.KindPtr; k++ {
		m.add(0, api.OpConst, k, m.word(k))
	}
	m.add(0, api.OpData, api.KindPtr, int64(m.Next(len(m.u.Data)+1)))
}

// merge lays OpPhis, that of memory among them.
func (m *maker) merge(b int) {
	count := m.Next(3)
	at := m.Next(count + 1)
	for i := range count + 1 {
		if i == at && m.phis[b] {
			m.end[b] = m.add(b, api.OpPhi, api.KindMem, 0)
		}
		if i < count {
			m.add(b, api.OpPhi, m.kind(), 0)
		}
	}
}

// close gives OpPhis and blocks' ends what they take.
func (m *maker) close() {
	for _, b := range m.order {
		x := &m.c.Blocks[b]
		for _, n := range x.List {
			if v := &m.c.Values[n]; v.Op == api.OpPhi {
				v.Args = m.merged(x.Preds, v.Kind)
			}
		}
		m.finish(b, x)
	}
}

func (m *maker) merged(preds []int, kind int) []int {
	var l []int
	for _, p := range preds {
		if kind == api.KindMem {
			l = append(l, m.end[p])
		} else {
			l = append(l, m.one(p, kind))
		}
	}
	return l
}

func (m *maker) finish(b int, x *api.Block) {
	switch x.Kind {
	case api.BlockIf:
		x.Args = []int{m.one(b, api.KindBool)}
	case api.BlockRet:
		for _, k := range m.c.Results {
			x.Args = append(x.Args, m.one(b, k))
		}
		x.Args = append(x.Args, m.end[b])
	case api.BlockPanic:
		x.Args, x.N = []int{m.end[b]}, 1+int64(m.Next(20))
	}
}
