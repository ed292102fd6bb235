package fold_test

import (
	"fmt"
	"testing"

	"gantry/api"
	. "gantry/hand"
	"gantry/sample"
)

// kindsOf tells how many blocks there are of each kind; holes are not counted.
func kindsOf(c api.Code) (many [api.BlockPanic + 1]int) {
	for _, b := range c.Blocks {
		many[b.Kind]++
	}
	many[api.BlockNone] = 0
	return many
}

// result tells what a Code of one BlockRet tells.
func result(c api.Code) api.Value {
	for _, b := range c.Blocks {
		if b.Kind == api.BlockRet {
			return c.Values[b.Args[0]]
		}
	}
	return api.Value{}
}

// counted tells how many values there are of an operation of a kind.
func counted(c api.Code, op, kind int) (many int) {
	for _, v := range c.Values {
		if v.Op == op && v.Kind == kind {
			many++
		}
	}
	return many
}

// known are ways to tell a bool that is c whatever the arguments of a function of KindI64 are.
func known() map[string]func(m *Maker, c uint64) int {
	return map[string]func(m *Maker, c uint64) int{
		"an OpConst":   func(m *Maker, c uint64) int { return m.Flag(c) },
		"a comparison": func(m *Maker, c uint64) int { return m.Bin(api.BinLt, I64, m.Num(4-c), m.Num(4)) },
		"one twice": func(m *Maker, c uint64) int {
			return m.Bin(api.BinEq+int64(1-c), I64, first, first)
		},
		"not not": func(m *Maker, c uint64) int { return m.Un(api.UnNot, Yes, m.Un(api.UnNot, Yes, m.Flag(c))) },
		"a choice": func(m *Maker, c uint64) int {
			x := m.Flag(c)
			return m.Sel(Yes, flag, x, x)
		},
	}
}

// TestBranch: P17.1: a BlockIf by an OpConst goes on by one way; what is on the other one is gone, a division by 0 of OpConsts too, and the OpPhis behind both are of one value.
func TestBranch(t *testing.T) {
	t.Parallel()
	turns := sample.Turns(21)
	for name, is := range known() {
		for c := range uint64(2) {
			for _, preds := range [][]int{{1, 2}, {2, 1}} {
				m := start(I64)
				m.Branch(is(m, c), 1, 2)
				m.Next(0)
				x := m.Bin(api.BinAdd, I64, first, m.Num(0))
				m.Emit(x)
				m.Plain(3)
				m.Next(0)
				y := m.Bin(api.BinMul, I64, second, m.Num(3))
				m.Emit(m.Num(7))
				m.Plain(3)
				takes := [][]int{{x, y}, {y, x}}[preds[0]-1]
				m.Next(preds...)
				z := m.Phi(I64, takes...)
				m.MemoryPhi(m.Ends[preds[0]], m.Ends[preds[1]])
				m.Emit(z)
				m.Ret(z)
				made := goes(t, fmt.Sprint(name, ", ", c), Unit(m), some(&turns, I64, 4)...)
				d := made.Codes[0]
				if many := kindsOf(d); many[api.BlockIf] != 0 || many[api.BlockPlain] != 2 || many[api.BlockRet] != 1 || counted(d, api.OpPhi, I64) != 0 || counted(d, api.OpEmit, Mem) != 2 {
					t.Errorf("%s, %d: %+v", name, c, d)
				}
			}
		}
	}
}

// TestByZero: P17.1: BinDiv and BinRem by 0, of OpConsts, stay where they are come to; where they never are they go with their block; no other value is worked out for them.
func TestByZero(t *testing.T) {
	t.Parallel()
	for _, kind := range Ints() {
		for _, op := range []int64{api.BinDiv, api.BinRem} {
			for c := range uint64(3) {
				m := start(kind)
				m.Emit(m.Num(1))
				holds := flag
				if c < 2 {
					holds = m.Flag(c)
				}
				m.Branch(holds, 1, 2)
				m.Next(0)
				m.Emit(m.Num(2))
				x := m.Bin(op, kind, m.Con(kind, 5), m.Con(kind, 0))
				m.Emit(m.Bin(api.BinMul, kind, x, m.Con(kind, 0)))
				m.Emit(m.Bin(op, kind, x, m.Con(kind, 1)))
				m.Ret(m.Num(3))
				m.Next(0)
				m.Emit(first)
				m.Ret(m.Num(4))
				u := Unit(m)
				made := goes(t, fmt.Sprint("kind ", kind, ", ", op, ", ", c), u, all(kind)[:6]...)
				stuck := false
				for _, v := range made.Codes[0].Values {
					stuck = stuck || v.Op == api.OpBin && v.N == op && made.Codes[0].Values[v.Args[0]].Op == api.OpConst
				}
				if stuck != (c > 0) {
					t.Errorf("kind %d, %d, %d: %+v", kind, op, c, made)
				}
			}
		}
	}
}

// TestOneBlock: P17.1: a BlockIf both of whose ways lead to one block, by either OpConst, and by what nobody knows: what its OpPhis take is told apart by the order among Preds.
func TestOneBlock(t *testing.T) {
	t.Parallel()
	turns := sample.Turns(22)
	for c := range uint64(3) {
		for _, preds := range [][]int{{1, 1, 2}, {1, 2, 1}, {2, 1, 1}} {
			m := start(I64)
			three, four, five := m.Num(3), m.Num(4), m.Num(5)
			holds := flag
			if c < 2 {
				holds = m.Flag(c)
			}
			m.Branch(m.Bin(api.BinLt, I64, first, second), 1, 2)
			m.Next(0)
			m.Branch(holds, 3, 3)
			m.Next(0)
			m.Plain(3)
			m.Next(preds...)
			var takes, same []int
			for i, p := range preds {
				takes = append(takes, []int{three, four, five}[i])
				same = append(same, []int{first, second}[p-1])
			}
			x, y := m.Phi(I64, takes...), m.Phi(I64, same...)
			z := m.Phi(I64, three, three, three)
			for _, n := range []int{x, y, z} {
				m.Emit(n)
			}
			m.Ret(x)
			made := goes(t, fmt.Sprint(c, ", ", preds), Unit(m), some(&turns, I64, 12)...)
			if many := kindsOf(made.Codes[0]); many[api.BlockIf] != 1+int(c/2) || counted(made.Codes[0], api.OpPhi, I64) != 2 {
				t.Errorf("%d, %d: %+v", c, preds, made)
			}
		}
		m := start(I64)
		m.Branch(m.Flag(c%2), 1, 1)
		m.Next(0, 0)
		m.Ret(m.Phi(I64, first, second))
		made := goes(t, fmt.Sprint(c, ", no others"), Unit(m), some(&turns, I64, 4)...)
		if many := kindsOf(made.Codes[0]); many[api.BlockIf] != 0 || counted(made.Codes[0], api.OpPhi, I64) != 0 {
			t.Errorf("%d: %+v", c, made)
		}
	}
}

// TestPhis: P17.1: an OpPhi of itself and one value, of one value by all ways, of others that are one; two OpPhis that are each other; the memory's stay right.
func TestPhis(t *testing.T) {
	t.Parallel()
	turns := sample.Turns(23)
	for _, kind := range Words() {
		m := start(kind)
		zero, one := m.Num(0), m.Num(1)
		m.Plain(1)
		m.Next(0, 3, 4)
		i, loop := m.Phi(I64), m.MemoryPhi()
		same, other, each, turned, both := m.Phi(kind), m.Phi(kind), m.Phi(kind), m.Phi(kind), m.Phi(kind)
		m.Branch(m.Bin(api.BinLt, I64, i, m.Num(4)), 2, 5)
		m.Next(1)
		tell(m, same)
		tell(m, each)
		tell(m, both)
		more := m.Bin(api.BinAdd, I64, i, one)
		kept := m.Sel(kind, flag, same, same)
		m.Branch(m.Bin(api.BinLt, I64, more, m.Num(2)), 3, 4)
		m.Next(2)
		m.Plain(1)
		m.Next(2)
		tell(m, other)
		m.Plain(1)
		m.Next(1)
		tell(m, turned)
		m.Ret(i)
		m.Takes(i, zero, more, more)
		m.Takes(loop, m.Ends[0], m.Ends[3], m.Ends[4])
		m.Takes(same, first, same, same)
		m.Takes(other, first, same, kept)
		m.Takes(each, first, turned, each)
		m.Takes(turned, second, each, turned)
		m.Takes(both, second, both, second)
		made := goes(t, fmt.Sprint("kind ", kind), Unit(m), some(&turns, kind, 12)...)
		most := 2
		if kind == I64 {
			most++
		}
		if many := counted(made.Codes[0], api.OpPhi, kind); many > most {
			t.Errorf("kind %d: %d OpPhis: %+v", kind, many, made)
		}
	}
}

// TestLoopsOfOne: P17.1: loops that are never left, never entered, gone through once.
func TestLoopsOfOne(t *testing.T) {
	t.Parallel()
	turns := sample.Turns(24)
	for name, x := range map[string]struct {
		begin, again uint64 // whether the loop is entered, whether it is gone through once more
		many         [api.BlockPanic + 1]int
	}{
		"never entered":          {0, 1, [...]int{0, 1, 0, 1, 0}},
		"never entered, or once": {0, 0, [...]int{0, 1, 0, 1, 0}},
		"once":                   {1, 0, [...]int{0, 3, 0, 1, 0}},
		"never left":             {1, 1, [...]int{0, 3, 0, 0, 0}},
	} {
		m := start(I64)
		m.Branch(m.Flag(x.begin), 1, 3)
		m.Next(0, 2)
		i, loop := m.Phi(I64), m.MemoryPhi()
		m.Emit(i)
		m.Plain(2)
		m.Next(1)
		more := m.Bin(api.BinAdd, I64, i, m.Num(1))
		m.Branch(m.Flag(x.again), 1, 3)
		m.Takes(i, first, more)
		m.Takes(loop, m.Ends[0], m.Memory)
		m.Next(0, 2)
		left := m.Phi(I64, second, more)
		m.MemoryPhi(m.Ends[0], m.Ends[2])
		m.Emit(left)
		m.Ret(left)
		made := goes(t, name, Unit(m), some(&turns, I64, 6)...)
		if many := kindsOf(made.Codes[0]); many != x.many {
			t.Errorf("%s: %d: %+v", name, many, made)
		}
	}
}

// TestUnreached: P17.1: blocks that are reached no longer, loops of two entries among them, and blocks behind them: what their OpPhis took from there is gone, what they take by two other ways stays.
func TestUnreached(t *testing.T) {
	t.Parallel()
	turns := sample.Turns(25)
	m := start(I64)
	m.Branch(flag, 1, 2)
	m.Next(0) // 1
	m.Emit(m.Num(1))
	m.Branch(m.Flag(0), 3, 6)
	m.Next(0) // 2
	m.Branch(m.Flag(1), 6, 4)
	m.Next(1, 4) // 3
	loop := m.MemoryPhi()
	m.Emit(m.Num(3))
	m.Plain(4)
	m.Next(2, 3) // 4
	other := m.MemoryPhi(m.Ends[2], m.Ends[3])
	m.Takes(loop, m.Ends[1], other)
	m.Branch(m.Bin(api.BinLt, I64, first, second), 3, 5)
	m.Next(4) // 5
	m.Bin(api.BinDiv, I64, m.Num(1), m.Num(0))
	five := m.Num(5)
	m.Plain(6)
	m.Next(5, 2, 1) // 6
	x, y := m.Phi(I64, five, first, second), m.Phi(I64, five, second, second)
	m.MemoryPhi(m.Ends[5], m.Ends[2], m.Ends[1])
	m.Emit(x)
	m.Emit(y)
	m.Ret(x)
	made := goes(t, "unreached", Unit(m), some(&turns, I64, 8)...)
	if many := kindsOf(made.Codes[0]); many != [...]int{0, 2, 1, 1, 0} || counted(made.Codes[0], api.OpPhi, I64) != 1 {
		t.Errorf("%d: %+v", many, made)
	}
}

// cascade is so many branches one behind the other, each of which is decided once the one ahead of it is; the way that is not gone tells a number.
func cascade(many int) *Maker {
	m := start(I64)
	yes, no := m.Flag(1), m.Flag(0)
	holds, sum := yes, first
	for range many {
		b := len(m.Blocks) - 1
		m.Branch(holds, b+1, b+2)
		m.Next(b)
		m.Plain(b + 3)
		m.Next(b)
		m.Emit(m.Num(9))
		more := m.Bin(api.BinAdd, I64, sum, m.Num(1))
		m.Plain(b + 3)
		m.Next(b+1, b+2)
		holds = m.Phi(Yes, holds, no)
		sum = m.Phi(I64, sum, more)
		m.MemoryPhi(m.Ends[b+1], m.Ends[b+2])
	}
	m.Emit(m.Sel(I64, holds, m.Num(4), m.Num(5)))
	m.Ret(sum)
	return m
}

// TestCascade: P17.1: a branch behind which another one is decided, and so on; in the order of blocks, and in the other one.
func TestCascade(t *testing.T) {
	t.Parallel()
	turns := sample.Turns(26)
	for _, many := range []int{1, 2, 30} {
		c := goes(t, "forwards", Unit(cascade(many)), some(&turns, I64, 4)...).Codes[0]
		if kinds := kindsOf(c); kinds[api.BlockIf] != 0 || counted(c, api.OpEmit, Mem) != 1 || result(c).Op != api.OpArg {
			t.Errorf("%d: %+v", many, c)
		}
	}
	// The outer loop is left at once only when it is known that the inner one is.
	m := start(I64)
	no := m.Flag(0)
	m.Plain(1)
	m.Next(0, 3)
	again, outer := m.Phi(Yes), m.MemoryPhi()
	m.Emit(m.Num(1))
	m.Plain(2)
	m.Next(1, 2)
	once, inner := m.Phi(Yes), m.MemoryPhi()
	m.Emit(m.Num(2))
	m.Branch(again, 2, 3)
	m.Takes(once, again, again)
	m.Takes(inner, m.Ends[1], m.Memory)
	m.Next(2)
	m.Branch(once, 1, 4)
	m.Takes(again, no, once)
	m.Takes(outer, m.Ends[0], m.Memory)
	m.Next(3)
	m.Ret(first)
	goes(t, "backwards", Unit(m), some(&turns, I64, 2)...)
}
