package cse_test

import (
	"fmt"
	"testing"

	"gantry/api"
	. "gantry/hand"
	"gantry/sample"
	"gantry/trial"
)

// links are ways to make a value of one: what it tells for the same is the same.
func links() map[string]func(m *Maker, x int) int {
	return map[string]func(m *Maker, x int) int{
		"un":      func(m *Maker, x int) int { return m.Un(api.UnNeg, I64, x) },
		"first":   func(m *Maker, x int) int { return m.Bin(api.BinSub, I64, x, second) },
		"second":  func(m *Maker, x int) int { return m.Bin(api.BinSub, I64, second, x) },
		"both":    func(m *Maker, x int) int { return m.Bin(api.BinAdd, I64, x, x) },
		"as":      func(m *Maker, x int) int { return m.Conv(I64, m.Conv(I8, x)) },
		"choice":  func(m *Maker, x int) int { return m.Sel(I64, flag, x, first) },
		"other":   func(m *Maker, x int) int { return m.Sel(I64, flag, first, x) },
		"by":      func(m *Maker, x int) int { return m.Sel(I64, m.Bin(api.BinLt, I64, x, second), first, second) },
		"divided": func(m *Maker, x int) int { return m.Bin(api.BinDiv, I64, x, second) },
		"address": func(m *Maker, x int) int {
			return m.Conv(I64, m.Load(U8, m.Element(m.Data(0), 1, m.Bin(api.BinAnd, U64, m.Conv(U64, x), index), 2), 3))
		},
	}
}

// size tells how many values a link lays.
func size(link func(m *Maker, x int) int) int {
	m := trial.Start(I64)
	was := len(m.Values)
	link(m, first)
	return len(m.Values) - was
}

// TestChains: P18.1: rows of values that become the same only when their Args have: in one block, in blocks one behind the other.
func TestChains(t *testing.T) {
	t.Parallel()
	turns := sample.Turns(44)
	const many = 40
	for name, link := range links() {
		for _, far := range []bool{false, true} {
			m := trial.Start(I64)
			x, y := first, first
			for k := range many {
				x, y = link(m, x), link(m, y)
				if far {
					m.Plain(k + 1)
					m.Next(k)
				}
			}
			end(m, x, y)
			u := WithData([]byte("some data"), m)
			args := trial.Some(&turns, I64, 6)
			for _, l := range args {
				l[1] &= 2
			}
			all := many * size(link)
			if name == "address" {
				all += many - 1 // the OpData
			}
			pass.Loses(t, fmt.Sprint(name, ", ", far), u, all, args...)
			pass.Loses(t, fmt.Sprint(name, ", turned round"), trial.Back(u), all, args[0])
		}
	}
}

// TestSidesOfChains: P18.1: two rows in blocks neither of which dominates the other stay; behind a row that is ahead of both they go.
func TestSidesOfChains(t *testing.T) {
	t.Parallel()
	turns := sample.Turns(45)
	for name, link := range links() {
		if name == "address" {
			continue // its OpData is the same within one row
		}
		for _, ahead := range []bool{false, true} {
			m := trial.Start(I64)
			row := func() int {
				x := first
				for range 8 {
					x = link(m, x)
				}
				return x
			}
			if ahead {
				row()
			}
			m.Branch(flag, 1, 2)
			m.Next(0)
			x := row()
			m.Plain(3)
			m.Next(0)
			y := row()
			m.Plain(3)
			m.Next(2, 1)
			end(m, m.Phi(I64, y, x), row())
			args := trial.Some(&turns, I64, 4)
			many := 0
			if ahead {
				many = 3 * 8 * size(link)
			}
			pass.Loses(t, fmt.Sprint(name, ", ", ahead), Unit(m), many, args...)
		}
	}
}

// TestRoundLoops: P18.1: sums that go round a loop twice each; the second of each goes, in the OpPhis too.
func TestRoundLoops(t *testing.T) {
	t.Parallel()
	for _, args := range [][]uint64{{0, 0, 0, 3, 4}, {1, 1, 0, 3, 4}, {1, 3, 0, Minus(3), 9}} {
		m := trial.Start(I64)
		var one, two, x, y int
		round(m, func() {
			one, two = m.Phi(I64), m.Phi(I64)
			m.Bin(api.BinMul, I64, one, second)
			m.Bin(api.BinMul, I64, one, second)
		}, func() {
			x, y = m.Bin(api.BinAdd, I64, one, second), m.Bin(api.BinAdd, I64, one, second)
			x, y = m.Bin(api.BinMul, I64, x, x), m.Bin(api.BinMul, I64, y, y)
		})
		m.Takes(one, first, x)
		m.Takes(two, first, y)
		end(m, one, two, m.Bin(api.BinMul, I64, one, second))
		pass.Loses(t, "round a loop", Unit(m), 4, args)
	}
}

// TestNested: P18.1: loops within loops: what is told in each of them, and ahead.
func TestNested(t *testing.T) {
	t.Parallel()
	const deep = 30
	m := trial.Start(I64)
	m.Bin(api.BinAdd, I64, first, second)
	for k := range deep {
		m.Plain(k + 1)
		m.Next(k, 2*deep-k)
		m.Bin(api.BinAdd, I64, first, second)
	}
	m.Plain(deep + 1)
	last := 0
	for k := deep; k > 0; k-- {
		m.Next(len(m.Blocks) - 1)
		last = m.Bin(api.BinAdd, I64, first, second)
		m.Branch(flag, k, 2*deep+2-k)
	}
	m.Next(2 * deep)
	end(m, last)
	pass.Loses(t, "loops in loops", Unit(m), 2*deep, []uint64{0, 0, 0, 3, 4}, []uint64{1, 0, 0, 3, 4})
}

// TestPhis: P18.1: OpPhis are no pure values: those that take the same, those that come to, mean what they meant.
func TestPhis(t *testing.T) {
	t.Parallel()
	turns := sample.Turns(46)
	for _, kind := range Words() {
		m := trial.Start(kind)
		m.Branch(flag, 1, 2)
		m.Next(0)
		x, y := m.Sel(kind, flag, first, second), m.Sel(kind, flag, first, second)
		m.Plain(3)
		m.Next(0)
		m.Plain(3)
		m.Next(1, 2)
		l := []int{m.Phi(kind, x, second), m.Phi(kind, y, second), m.Phi(kind, second, x), m.Phi(kind, x, x), m.Phi(kind, x, y)}
		m.Values[l[2]].Args = []int{x, first}
		m.Values[l[3]].Args = []int{second, first}
		m.Values[l[4]].Args = []int{y, first}
		for _, n := range l {
			l = append(l, m.Sel(kind, flag, n, first))
		}
		end(m, l...)
		pass.Loses(t, fmt.Sprint("kind ", kind), Unit(m), 1, trial.Some(&turns, kind, 8)...)
	}
}

// TestBothWays: P18.1: a BlockIf both of whose Succs are one block, which dominates nothing but what it does.
func TestBothWays(t *testing.T) {
	m := trial.Start(I64)
	x, y := m.Un(api.UnNeg, I64, first), m.Un(api.UnNeg, I64, first)
	m.Branch(flag, 1, 1)
	m.Next(0, 0)
	z := m.Phi(I64, x, y)
	v := m.Phi(I64, y, second)
	end(m, z, v, m.Un(api.UnNeg, I64, first), m.Un(api.UnNeg, I64, z))
	pass.Loses(t, "both ways", Unit(m), 2, []uint64{0, 0, 0, 3, 4}, []uint64{1, 0, 0, 3, 4})
}
