package cse_test

import (
	"fmt"
	"testing"

	"gantry/api"
	. "gantry/hand"
	"gantry/sample"
	"gantry/trial"
)

// group is values of which each two differ: some in one alone of Op, Kind, N, M and Args.
type group struct {
	name string
	kind int
	lay  func(m *Maker) []int
}

func groups() []group {
	l := []group{
		{"one number", Ptr, func(m *Maker) []int {
			told := []int{m.Point(1), m.Data(1)}
			for _, kind := range append(Ints(), Yes, F64) {
				told = append(told, m.Con(kind, 1))
			}
			return append(told, index) // the argument of the number 1
		}},
		{"noughts", Ptr, func(m *Maker) []int {
			return []int{m.Con(F64, 0), m.Con(F64, Minus0), m.Num(0), m.Num(Minus0), m.Con(U64, Minus0), m.Con(U64, 0), m.Point(0), m.Data(0)}
		}},
		{"NaNs", Ptr, func(m *Maker) []int {
			return []int{m.Con(F64, NaN), m.Con(F64, OtherNaN), m.Con(F64, Inf), m.Con(F64, MinusInf), m.Con(U64, NaN)}
		}},
		{"data", Ptr, func(m *Maker) []int { return []int{m.Data(0), m.Data(1), m.Data(4)} }},
		{"addresses", Ptr, func(m *Maker) []int {
			other := m.Bin(api.BinMul, U64, index, index)
			return []int{m.Addr(first, 4), m.Addr(first, 5), m.Addr(second, 4), m.Addr(first, 0), m.Element(first, 4, index, 0),
				m.Element(first, 4, index, 1), m.Element(first, 4, index, 2), m.Element(first, 5, index, 2), m.Element(second, 4, index, 2), m.Element(first, 4, other, 2)}
		}},
		{"blocks", Ptr, func(m *Maker) []int {
			size := m.Con(U64, 24)
			one, two := m.Alloc(size), m.Alloc(size)
			return []int{m.Add(api.OpBlock, Ptr, 0, two), m.Add(api.OpBlock, Ptr, 0, one)}
		}},
		{"results", I64, func(m *Maker) []int {
			one, two := m.Call(2, first, second), m.Call(2, first, second)
			return []int{m.Result(I64, one, 0), m.Result(I64, one, 1), m.Result(I64, two, 0), m.Result(I64, two, 1)}
		}},
		{"loads", Ptr, func(m *Maker) []int {
			p, q := m.Block(32), m.Block(40)
			m.Store(p, 0, first)
			m.Store(q, 0, second)
			told := []int{m.Load(U64, p, 0), m.Load(I64, p, 0), m.Load(U64, p, 1), m.Load(U64, q, 0), m.Load(U8, p, 0), m.Load(Ptr, p, 0), m.Load(F64, p, 0)}
			m.Store(p, 0, second)
			return append(told, m.Load(U64, p, 0))
		}},
	}
	for _, kind := range Words() {
		l = append(l, group{fmt.Sprint("of kind ", kind), kind, func(m *Maker) []int { return ofKind(m, kind) }})
	}
	return l
}

// ofKind: all operations of that kind's words, with Args in both orders where that is another word.
func ofKind(m *Maker, kind int) (told []int) {
	for _, op := range UnOps(kind) {
		told = append(told, m.Un(op, kind, first), m.Un(op, kind, second))
	}
	other := m.Bin(api.BinAdd, U64, index, index)
	for _, op := range BinOps(kind) {
		if ByKind(op, kind) == U64 && kind != U64 {
			told = append(told, m.Bin(op, kind, first, index), m.Bin(op, kind, second, index), m.Bin(op, kind, first, other))
			continue
		}
		told = append(told, m.Bin(op, kind, first, second), m.Bin(op, kind, first, first), m.Bin(op, kind, second, second))
		if op == api.BinSub || op == api.BinDiv || op == api.BinRem || op == api.BinShl || op == api.BinShr {
			told = append(told, m.Bin(op, kind, second, first))
		}
	}
	if IsInt(kind) || kind == F64 {
		for _, to := range append(Ints(), F64) {
			told = append(told, m.Conv(to, first), m.Conv(to, second))
		}
	}
	not := m.Un(api.UnNot, Yes, flag)
	return append(told, m.Sel(kind, flag, first, second), m.Sel(kind, flag, second, first), m.Sel(kind, not, first, second), m.Sel(kind, flag, first, first), m.Sel(kind, flag, second, second))
}

// two is a function with two results: its arguments the other way round.
func two() *Maker {
	m := Function([]int{I64, I64}, []int{I64, I64})
	m.Ret(2, 1)
	return m
}

// TestNear: P18.1: values that are not the same stay, however near they are.
func TestNear(t *testing.T) {
	t.Parallel()
	turns := sample.Turns(41)
	for _, g := range groups() {
		args := trial.Some(&turns, g.kind, 6)
		m := trial.Start(g.kind)
		end(m, g.lay(m)...)
		pass.Loses(t, g.name, WithData([]byte("data"), m, trial.Same(g.kind), two()), 0, args...)
	}
}

// TestSwapped: P18.1: operations whose Args may stand either way mean what they meant.
func TestSwapped(t *testing.T) {
	t.Parallel()
	turns := sample.Turns(42)
	for _, kind := range Words() {
		m := trial.Start(kind)
		var told []int
		for _, op := range BinOps(kind) {
			if ByKind(op, kind) == kind {
				told = append(told, m.Bin(op, kind, first, second), m.Bin(op, kind, second, first))
			}
		}
		end(m, told...)
		pass.Hold(t, fmt.Sprint("kind ", kind), Unit(m), trial.Some(&turns, kind, 12)...)
	}
}

// TestArgs: P18.1: an argument that is told twice.
func TestArgs(t *testing.T) {
	for _, kind := range Words() {
		m := trial.Start(kind)
		x, y, z := m.Add(api.OpArg, kind, 3), m.Add(api.OpArg, kind, 4), m.Add(api.OpArg, kind, 3)
		end(m, x, first, y, z, second)
		pass.Loses(t, fmt.Sprint("kind ", kind), Unit(m), 3, trial.All(kind)[:7%len(trial.All(kind))]...)
	}
}
