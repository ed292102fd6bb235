package cse_test

import (
	"testing"

	"gantry/api"
	. "gantry/hand"
	"gantry/sample"
	"gantry/trial"
)

// betweens are what may stand between two loads, each of which tells how many memories there are then, beside the first.
func betweens() map[string]func(m *Maker, p int) {
	return map[string]func(m *Maker, p int){
		"nothing":      func(m *Maker, p int) {},
		"a value":      func(m *Maker, p int) { m.Bin(api.BinAdd, I64, first, second) },
		"a store":      func(m *Maker, p int) { m.Store(p, 9, second) },
		"a store near": func(m *Maker, p int) { m.Store(p, 13, second) },
		"a store else": func(m *Maker, p int) { m.Store(p, 24, second) },
		"a call":       func(m *Maker, p int) { m.Call(1, p, second) },
		"an alloc":     func(m *Maker, p int) { m.Alloc(index) },
		"an emit":      func(m *Maker, p int) { m.Emit(first) },
	}
}

// storing is a function that stores its second argument where its first one points.
func storing() *Maker {
	m := Function([]int{Ptr, I64}, nil)
	m.Store(1, 9, 2)
	m.Ret()
	return m
}

// TestLoads: P18.1: OpLoads of one address and one memory are one; of two memories they stay.
func TestLoads(t *testing.T) {
	t.Parallel()
	turns := sample.Turns(43)
	for name, between := range betweens() {
		for _, far := range []bool{false, true} {
			m := trial.Start(I64)
			p := m.Block(32)
			m.Store(p, 9, first)
			loads := []int{m.Load(I64, p, 9), m.Load(I64, p, 9)}
			memory := m.Memory
			between(m, p)
			if far {
				m.Plain(1)
				m.Next(0)
			}
			loads = append(loads, m.Load(I64, p, 9), m.Load(I64, p, 9))
			many := 2
			if m.Memory == memory {
				many = 3
			}
			end(m, loads...)
			pass.Loses(t, name, withStoring(m), many, trial.Some(&turns, I64, 6)...)
		}
	}
}

func withStoring(m *Maker) api.Unit { return Unit(m, storing()) }

// TestLoadsOfOne: P18.1: loads of addresses that have become one, of a block's start that is told twice, of data.
func TestLoadsOfOne(t *testing.T) {
	t.Parallel()
	m := trial.Start(I64)
	size := m.Con(U64, 64)
	alloc := m.Alloc(size)
	p, q := m.Add(api.OpBlock, Ptr, 0, alloc), m.Add(api.OpBlock, Ptr, 0, alloc)
	m.Store(p, 16, first)
	m.Store(m.Element(q, 8, m.Con(U64, 3), 8), 0, second)
	x, y := m.Load(I64, m.Addr(p, 8), 8), m.Load(I64, m.Addr(q, 8), 8)
	three := m.Con(U64, 3)
	z := m.Load(I64, m.Element(p, 8, three, 8), 0)
	d, e := m.Load(U8, m.Data(2), 1), m.Load(U8, m.Data(2), 1)
	end(m, x, y, z, d, e)
	// q; one OpAddr and one OpLoad of p and q; one OpConst and one OpAddr with it; one OpData and one OpLoad.
	pass.Loses(t, "loads of one", WithData([]byte("data"), m), 7, trial.All(I64)...)
}

// TestLoop: P18.1: a load in a loop that stores is another one than that ahead of it; in one that does not it is the same one.
func TestLoop(t *testing.T) {
	t.Parallel()
	for _, stores := range []bool{false, true} {
		m := trial.Start(I64)
		p := m.Block(16)
		m.Store(p, 0, first)
		x := m.Load(I64, p, 0)
		ahead := m.Memory
		head := -1
		round(m, func() {
			if stores {
				head = m.MemoryPhi()
			}
			m.Load(I64, p, 0)
		}, func() {
			y := m.Load(I64, p, 0)
			if stores {
				m.Store(p, 0, m.Bin(api.BinAdd, I64, y, second))
				m.Takes(head, ahead, m.Memory)
			}
		})
		z := m.Load(I64, p, 0)
		end(m, x, z)
		many := 3
		if stores {
			many = 2
		}
		pass.Loses(t, "a loop", withStoring(m), many, []uint64{0, 0, 0, 3, 4}, []uint64{0, 3, 0, 3, 4}, []uint64{0, 7, 0, Minus(3), 1})
	}
}
