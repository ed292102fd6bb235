package cse_test

import (
	"fmt"
	"testing"

	"gantry/api"
	. "gantry/hand"
	"gantry/sample"
	"gantry/trial"
)

// shape is where a value is told more than once: lay lays it, and its end; so many of the values go.
type shape struct {
	name string
	goes int
	lay  func(m *Maker, one func() int)
}

func shapes() []shape {
	return []shape{
		{"once", 0, func(m *Maker, one func() int) { end(m, one()) }},
		{"twice", 1, func(m *Maker, one func() int) { end(m, one(), one()) }},
		{"five times", 4, func(m *Maker, one func() int) { end(m, one(), one(), one(), one(), one()) }},
		{"ahead, in both sides, behind", 3, func(m *Maker, one func() int) { sides(m, one, true, true, true) }},
		{"ahead, in both sides", 2, func(m *Maker, one func() int) { sides(m, one, true, true, false) }},
		{"ahead, behind", 1, func(m *Maker, one func() int) { sides(m, one, true, false, true) }},
		{"in both sides, behind", 0, func(m *Maker, one func() int) { sides(m, one, false, true, true) }},
		{"in both sides", 0, func(m *Maker, one func() int) { sides(m, one, false, true, false) }},
		{"in one side, and behind that", 2, oneSide},
		{"in a loop and ahead of it", 3, inLoop},
		{"in a loop's head and on", 2, inHead},
		{"in a loop's body and behind it", 0, inBody},
		{"in a loop with two heads", 0, twoHeads},
	}
}

// end tells values, and returns what nothing else is.
func end(m *Maker, told ...int) {
	for _, n := range told {
		trial.Tell(m, n)
	}
	m.Ret(m.Num(1 << 40))
}

// sides lays two sides of a branch, and what stands behind them.
func sides(m *Maker, one func() int, ahead, both, behind bool) {
	var told []int
	if ahead {
		told = append(told, one())
	}
	m.Branch(flag, 1, 2)
	var takes []int
	for range 2 {
		m.Next(0)
		if both {
			takes = append(takes, one())
		}
		m.Plain(3)
	}
	m.Next(1, 2)
	if both {
		told = append(told, m.Phi(m.Values[takes[0]].Kind, takes...))
	}
	if behind {
		told = append(told, one())
	}
	end(m, told...)
}

// oneSide: a side tells it twice, and a block that it dominates once more.
func oneSide(m *Maker, one func() int) {
	m.Branch(flag, 1, 2)
	m.Next(0)
	x, y := one(), one()
	m.Plain(3)
	m.Next(0)
	end(m)
	m.Next(1)
	end(m, x, y, one())
}

// round lays a loop that goes round up to three times: what its head lays, and what its body does.
func round(m *Maker, head, body func()) {
	many := m.Bin(api.BinAnd, U64, index, m.Con(U64, 3))
	zero, step := m.Con(U64, 0), m.Con(U64, 19)
	m.Plain(1)
	m.Next(0, 2)
	i := m.Phi(U64)
	head()
	m.Branch(m.Bin(api.BinLt, U64, i, m.Bin(api.BinMul, U64, many, step)), 2, 3)
	m.Next(1)
	body()
	m.Takes(i, zero, m.Bin(api.BinAdd, U64, step, i))
	m.Plain(1)
	m.Next(1)
}

// inLoop: ahead of a loop, in its head, in its body, behind it.
func inLoop(m *Maker, one func() int) {
	x := one()
	kind := m.Values[x].Kind
	var phi, y, z int
	round(m, func() { phi, y = m.Phi(kind), one() }, func() { z = one() })
	m.Takes(phi, x, z)
	end(m, phi, y, one())
}

// inHead: a value that hangs on nothing in the loop, but is told in it alone, and behind it.
func inHead(m *Maker, one func() int) {
	var x int
	round(m, func() { x = one() }, func() { one() })
	end(m, x, one())
}

// inBody: in the body, and behind, where the body does not always lead.
func inBody(m *Maker, one func() int) {
	round(m, func() {}, func() { one() })
	end(m, one())
}

// twoHeads: blocks that go to each other, and are both gone to from elsewhere.
func twoHeads(m *Maker, one func() int) {
	other := m.Un(api.UnNot, Yes, flag)
	m.Branch(flag, 1, 2)
	m.Next(0, 2)
	x := one()
	m.Branch(flag, 2, 3)
	m.Next(0, 1)
	y := one()
	m.Branch(other, 1, 3)
	m.Next(1, 2)
	end(m, m.Phi(m.Values[x].Kind, x, y), one())
}

// TestShapes: P18.1, P18.2: each form of each kind, wherever it is told.
func TestShapes(t *testing.T) {
	for _, kind := range Words() {
		t.Run(fmt.Sprint("kind ", kind), func(t *testing.T) {
			t.Parallel()
			turns := sample.Turns(kind)
			for _, f := range trial.Forms(kind) {
				for _, s := range shapes() {
					m := trial.Start(kind)
					s.lay(m, f.Lay(m))
					u := WithData([]byte("data"), m, trial.Same(kind))
					name := fmt.Sprint("kind ", kind, ", ", f.Name, " ", s.name)
					pass.Loses(t, name, u, s.goes, trial.Some(&turns, kind, 2)...)
					pass.Loses(t, name+", turned round", trial.Back(u), s.goes)
				}
			}
		})
	}
}
