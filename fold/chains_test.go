package fold_test

import (
	"fmt"
	"testing"

	"gantry/api"
	. "gantry/hand"
	"gantry/sample"
)

// chain lays forms one behind the other, each of what the ones before it tell, and tells the last one.
func chain(t *sample.Turns, m *Maker, kind, x, y, many int) int {
	forms := formsOf(kind)
	for range many {
		n := sample.Pick(t, forms).make(m, x, y)
		if m.Values[n].Kind != kind {
			n = m.Sel(kind, n, x, y)
		}
		switch t.Next(5) {
		case 0:
			y = x
		case 1:
			y, n = n, y
		case 2:
			tell(m, n)
		}
		x = n
	}
	return x
}

// TestChains: P17.1, P17.2: forms of a kind one behind the other.
func TestChains(t *testing.T) {
	t.Parallel()
	turns := sample.Turns(18)
	for _, kind := range Words() {
		for many := 2; many < 40; many += 1 + many/3 {
			m := start(kind)
			tell(m, chain(&turns, m, kind, first, second, many))
			u := Unit(m.Done())
			goes(t, fmt.Sprint("kind ", kind), u, some(&turns, kind, 4)...)
			goes(t, fmt.Sprint("kind ", kind, ", numbers turned round"), back(u), some(&turns, kind, 2)...)
		}
	}
}

// looped is a loop of three rounds, in which two words of a kind go through forms, and one stays what it is.
func looped(t *sample.Turns, kind int) *Maker {
	m := start(kind)
	zero, one, rounds := m.Num(0), m.Num(1), m.Num(3)
	before := chain(t, m, kind, first, second, 2)
	m.Plain(1)
	m.Next(0, 2)
	i, x, y, same, loop := m.Phi(I64), m.Phi(kind), m.Phi(kind), m.Phi(kind), m.MemoryPhi()
	m.Branch(m.Bin(api.BinLt, I64, i, rounds), 2, 3)
	m.Next(1)
	more := m.Bin(api.BinAdd, I64, i, one)
	z := chain(t, m, kind, x, y, 1+t.Next(6))
	tell(m, z)
	tell(m, chain(t, m, kind, same, y, 3))
	m.Takes(i, zero, more)
	m.Takes(x, before, sample.Pick(t, []int{z, y, first, before}))
	m.Takes(y, second, sample.Pick(t, []int{x, y, z}))
	m.Takes(same, first, same)
	m.Takes(loop, m.Ends[0], m.Memory)
	m.Plain(1)
	m.Next(1)
	tell(m, x)
	tell(m, chain(t, m, kind, same, x, 2))
	m.Ret(i)
	return m
}

// TestLoops: P17.1, P17.2: forms in loops, of what each round changes, and of what none does.
func TestLoops(t *testing.T) {
	t.Parallel()
	turns := sample.Turns(19)
	for _, kind := range Words() {
		for range 12 {
			u := Unit(looped(&turns, kind))
			goes(t, fmt.Sprint("kind ", kind), u, some(&turns, kind, 4)...)
			goes(t, fmt.Sprint("kind ", kind, ", numbers turned round"), back(u), some(&turns, kind, 1)...)
		}
	}
}

// TestNext: P17.1: folds behind which another one is possible.
func TestNext(t *testing.T) {
	t.Parallel()
	turns := sample.Turns(20)
	bin := func(op int64) func(m *Maker, x, y int) int {
		return func(m *Maker, x, y int) int { return m.Bin(op, I64, x, y) }
	}
	sub, add, mul := bin(api.BinSub), bin(api.BinAdd), bin(api.BinMul)
	neg := func(m *Maker, x int) int { return m.Un(api.UnNeg, I64, x) }
	for name, x := range map[string]struct {
		is   int // OpNone: it is the first argument
		make func(m *Maker, x, y int) int
	}{
		"(x + 0) - x": {api.OpConst, func(m *Maker, x, y int) int { return sub(m, add(m, x, m.Num(0)), x) }},
		"0 + (x - x)": {api.OpConst, func(m *Maker, x, y int) int { return add(m, m.Num(0), sub(m, x, x)) }},
		"y * (x - x)": {api.OpConst, func(m *Maker, x, y int) int { return mul(m, y, sub(m, x, x)) }},
		"(x - x) * y": {api.OpConst, func(m *Maker, x, y int) int { return mul(m, sub(m, x, x), y) }},
		"(y - y) + (x * (y == y))": {api.OpNone, func(m *Maker, x, y int) int {
			return add(m, sub(m, y, y), mul(m, x, m.Sel(I64, m.Bin(api.BinEq, I64, y, y), m.Num(1), y)))
		}},
		"-(0 + -x)":                 {api.OpNone, func(m *Maker, x, y int) int { return neg(m, add(m, m.Num(0), neg(m, x))) }},
		"-(-(-(-x)))":               {api.OpNone, func(m *Maker, x, y int) int { return neg(m, neg(m, neg(m, neg(m, x)))) }},
		"x as its own kind, less x": {api.OpConst, func(m *Maker, x, y int) int { return sub(m, m.Conv(I64, x), x) }},
		"x << (y - y), as KindU64":  {api.OpNone, func(m *Maker, x, y int) int { return m.Bin(api.BinShl, I64, x, m.Conv(U64, sub(m, y, y))) }},
		"a choice of x + 0, x":      {api.OpNone, func(m *Maker, x, y int) int { return m.Sel(I64, flag, add(m, x, m.Num(0)), x) }},
		"a choice by x < x":         {api.OpNone, func(m *Maker, x, y int) int { return m.Sel(I64, m.Bin(api.BinLt, I64, x, x), y, x) }},
		"a choice by not not (x <= x)": {api.OpNone, func(m *Maker, x, y int) int {
			return m.Sel(I64, m.Un(api.UnNot, Yes, m.Un(api.UnNot, Yes, m.Bin(api.BinLe, I64, x, x))), x, y)
		}},
		"x / (3 - 2)":  {api.OpNone, func(m *Maker, x, y int) int { return m.Bin(api.BinDiv, I64, x, sub(m, m.Num(3), m.Num(2))) }},
		"x & ~(y - y)": {api.OpNone, func(m *Maker, x, y int) int { return m.Bin(api.BinAnd, I64, x, m.Un(api.UnCom, I64, sub(m, y, y))) }},
		"((1 + 2) * 3 - 9) + x": {api.OpNone, func(m *Maker, x, y int) int {
			return add(m, sub(m, mul(m, add(m, m.Num(1), m.Num(2)), m.Num(3)), m.Num(9)), x)
		}},
		"5 / (x - x + 5)": {api.OpConst, func(m *Maker, x, y int) int { return m.Bin(api.BinDiv, I64, m.Num(5), add(m, sub(m, x, x), m.Num(5))) }},
	} {
		m := start(I64)
		told := x.make(m, first, second)
		m.Emit(told)
		m.Ret(told)
		for _, u := range []api.Unit{Unit(m), back(Unit(m))} {
			c := goes(t, name, u, some(&turns, I64, 6)...).Codes[0]
			v := result(c)
			if x.is != api.OpNone && v.Op != x.is || x.is == api.OpNone && (v.Op != api.OpArg || v.N != first-1) {
				t.Errorf("%s: %+v: %+v", name, v, c)
			}
		}
	}
}
