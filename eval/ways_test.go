package eval_test

import (
	"slices"
	"testing"

	"gantry/api"
	. "gantry/hand"
)

// TestLoop: P15.1: a loop, and its steps.
func TestLoop(t *testing.T) {
	u := Unit(Counter())
	for _, x := range []struct {
		n     uint64
		trace []uint64
		sum   int64
	}{{0, nil, 0}, {minus(5), nil, 0}, {1, words(1), 1}, {4, words(1, 2, 3, 4), 10}} {
		// Block 0, the head at last, the end; and in each round the head and block 2.
		steps := 5 + 2 + 1 + len(x.trace)*(2+4)
		want := api.Run{Trace: x.trace, End: api.EndExit, N: x.sum, Steps: steps, Calls: []api.Call{{Args: words(x.n), Back: true, Results: words(uint64(x.sum))}}}
		runs(t, "a loop", u, words(x.n), 1000, want)
	}
}

// sides begins a function that goes by its argument, a bool, to one or to the other block.
func sides(to, other int) *Maker {
	m := Begin(Yes)
	m.Branch(1, to, other)
	return m
}

// both holds what a unit ends with, if it is given true, and if it is given false.
func both(t *testing.T, name string, m *Maker, yes, no int64) {
	t.Helper()
	ends(t, name+", yes", Unit(m), words(1), api.EndExit, yes)
	ends(t, name+", no", Unit(m), words(0), api.EndExit, no)
}

// TestBranch: a BlockIf goes on with Succs[0], if Args[0] is true, else with Succs[1]; the block that was not gone to is not seen.
func TestBranch(t *testing.T) {
	for _, yes := range []int{1, 2} {
		m := sides(yes, 3-yes)
		m.Next(0)
		m.Ret(m.Num(1))
		m.Next(0)
		m.Ret(m.Num(2))
		both(t, "apart", m, int64(yes), int64(3-yes))
	}
	m := sides(1, 2)
	m.Next(0)
	m.Emit(m.Num(5))
	m.Panics(7)
	m.Next(0)
	m.Load(U8, m.Point(0), 0)
	m.Done()
	ends(t, "a panic", Unit(m), words(1), api.EndPanic, 7, 5)
	ends(t, "a load", Unit(m), words(0), api.EndStuck, 0)
}

// TestPhis: an OpPhi takes the i-th of Args, if it was come from the i-th of Preds, whatever order these have.
func TestPhis(t *testing.T) {
	for _, turned := range []bool{false, true} {
		m := sides(1, 2)
		m.Next(0)
		preds, takes := kinds(1, 2), kinds(m.Num(5))
		m.Plain(3)
		m.Next(0)
		takes = append(takes, m.Num(6))
		m.Plain(3)
		if turned {
			slices.Reverse(preds)
			slices.Reverse(takes)
		}
		m.Next(preds...)
		m.Ret(m.Phi(I64, takes...))
		both(t, "joined", m, 5, 6)
	}
	for _, turned := range []bool{false, true} {
		m := Begin(Yes)
		preds, takes := kinds(0, 1), kinds(m.Num(5), m.Num(6))
		m.Branch(1, 2, 1)
		m.Next(0)
		m.Plain(2)
		if turned {
			slices.Reverse(preds)
			slices.Reverse(takes)
		}
		m.Next(preds...)
		m.Ret(m.Phi(I64, takes...))
		both(t, "one side", m, 5, 6)
	}
	m := Begin()
	x := m.Num(7)
	m.Plain(1)
	m.Next(0)
	m.Ret(m.Phi(I64, x))
	ends(t, "one way alone", Unit(m), nil, api.EndExit, 7)
}

// TestMemoryPhis: an OpPhi of KindMem has no word; what others take hangs on no such one ahead of them.
func TestMemoryPhis(t *testing.T) {
	m := Begin(Yes)
	five, six := m.Num(5), m.Num(6)
	m.Branch(1, 1, 2)
	m.Next(0)
	m.Emit(five)
	m.Plain(3)
	m.Next(0)
	m.Alloc(m.Con(U64, 8))
	m.Plain(3)
	m.Next(2, 1)
	n := m.Phi(I64, six, five)
	m.MemoryPhi(m.Memory, m.Ends[1])
	other := m.Phi(I64, five, six)
	m.Emit(other)
	m.Ret(n)
	ends(t, "yes", Unit(m), words(1), api.EndExit, 5, 5, 6)
	ends(t, "no", Unit(m), words(0), api.EndExit, 6, 5)
}

// TestTwice: of a BlockIf whose Succs are one block Succs[0] goes with the first one of both Preds.
func TestTwice(t *testing.T) {
	m := Begin(Yes)
	five, six := m.Num(5), m.Num(6)
	m.Branch(1, 1, 1)
	m.Next(0, 0)
	x := m.Phi(I64, five, six)
	m.Ret(x)
	both(t, "a block twice", m, 5, 6)
	m.Takes(x, six, five)
	both(t, "a block twice, the other way round", m, 6, 5)

	for at := range 3 {
		m := Begin(Yes, Yes)
		preds, takes := kinds(1, 1), kinds(m.Num(5), m.Num(6))
		seven := m.Num(7)
		m.Branch(1, 1, 2)
		m.Next(0)
		m.Branch(2, 3, 3)
		m.Next(0)
		m.Plain(3)
		m.Next(slices.Insert(preds, at, 2)...)
		m.Ret(m.Phi(I64, slices.Insert(takes, at, seven)...))
		ends(t, "Succs[0]", Unit(m), words(1, 1), api.EndExit, 5)
		ends(t, "Succs[1]", Unit(m), words(1, 0), api.EndExit, 6)
		ends(t, "from elsewhere", Unit(m), words(0, 0), api.EndExit, 7)
		ends(t, "from elsewhere, whatever the other one says", Unit(m), words(0, 1), api.EndExit, 7)
	}
}

// TestTwiceInLoop: a block that is its own next one by both of its ways.
func TestTwiceInLoop(t *testing.T) {
	m := Begin()
	zero, one, three := m.Num(0), m.Num(1), m.Num(3)
	m.Plain(1)
	m.Next(1, 0, 1)
	i, loop := m.Phi(I64), m.MemoryPhi()
	m.Emit(i)
	up := m.Bin(api.BinAdd, I64, i, one)
	down := m.Bin(api.BinSub, I64, i, three)
	m.Takes(i, up, zero, down)
	m.Takes(loop, m.Memory, 0, m.Memory)
	m.Branch(m.Bin(api.BinLt, I64, i, three), 1, 1)
	if r := ran(t, "a loop", Unit(m), nil, 5+5*6); !slices.Equal(r.Trace, words(0, 1, 2, 3, 0, 1)) || r.End != api.EndFuel {
		t.Errorf("%+v", r)
	}
}

// TestPhisAtOnce: OpPhis of one block are laid all at once: what one takes of another one is what that was.
func TestPhisAtOnce(t *testing.T) {
	for turns := range 6 {
		m := Begin()
		var first, phis []int
		for i := range uint64(5) {
			first = append(first, m.Num(10+i))
		}
		m.Plain(1)
		m.Next(0, 1)
		for range 5 {
			phis = append(phis, m.Phi(I64))
		}
		// Three go round, the fourth stays, the fifth follows the first.
		for i, from := range []int{1, 2, 0, 3, 0} {
			m.Takes(phis[i], first[i], phis[from])
		}
		loop := m.MemoryPhi()
		for _, p := range phis {
			m.Emit(p)
		}
		m.Takes(loop, 0, m.Memory)
		m.Plain(1)
		// Their order in List says nothing.
		l := m.Blocks[1].List[:6]
		copy(l, slices.Concat(l[turns:], l[:turns]))
		want := words(10, 11, 12, 13, 14, 11, 12, 10, 13, 10, 12, 10, 11, 13, 11, 10, 11, 12, 13, 12)
		if r := ran(t, "at once", Unit(m), nil, 7+6*4); !slices.Equal(r.Trace, want) {
			t.Errorf("%d: %d", turns, r.Trace)
		}
	}
}

// TestOldWords: an OpPhi keeps its word until its block is come to again, whatever becomes of what it took.
func TestOldWords(t *testing.T) {
	m := Begin()
	zero, one := m.Num(0), m.Num(1)
	m.Plain(1)
	m.Next(0, 1)
	i, last, loop := m.Phi(I64), m.Phi(I64), m.MemoryPhi()
	more := m.Bin(api.BinAdd, I64, i, one)
	m.Emit(m.Bin(api.BinMul, I64, last, more))
	m.Takes(i, zero, more)
	m.Takes(last, one, i)
	m.Takes(loop, 0, m.Memory)
	m.Plain(1)
	if r := ran(t, "the one before", Unit(m), nil, 4+4*5); !slices.Equal(r.Trace, words(1, 0, 3, 8, 15)) {
		t.Errorf("%d", r.Trace)
	}
}

// TestListsOrder: values are worked out in List's order, not in that of their numbers; holes are nothing.
func TestListsOrder(t *testing.T) {
	values := []api.Value{
		{Op: api.OpEmit, Kind: Mem, Args: kinds(4, 3)}, {Op: api.OpConst, Kind: I64, N: 2}, {}, {Op: api.OpEmit, Kind: Mem, Args: kinds(1, 5)}, {Op: api.OpConst, Kind: I64, N: 3}, {Op: api.OpInit, Kind: Mem},
	}
	blocks := []api.Block{{Kind: api.BlockPlain, Succs: kinds(2), List: kinds(5, 1, 3)}, {}, {Kind: api.BlockRet, Preds: kinds(0), Args: kinds(4, 0), List: kinds(4, 0)}}
	u := api.Unit{Codes: []api.Code{{Results: kinds(I64), Values: values, Blocks: blocks}}}
	runs(t, "another order", u, nil, 9, api.Run{Trace: words(2, 3), End: api.EndExit, N: 3, Steps: 7, Calls: []api.Call{{Back: true, Results: words(3)}}})
}

// TestFuel: each value but an OpPhi takes one fuel, and each block's end, ahead: nothing is done of what there is none for.
func TestFuel(t *testing.T) {
	m := Begin(I64)
	m.Emit(1)
	m.Plain(1)
	m.Next(0)
	x := m.Phi(I64, 1)
	m.MemoryPhi(2)
	m.Store(m.Block(8), 0, x)
	m.Emit(x)
	m.Panics(9)
	// OpInit, OpArg, OpEmit, the end; OpConst, OpAlloc, OpBlock, OpStore, OpEmit, the end.
	for fuel := range 15 {
		want := api.Run{End: api.EndFuel, Steps: fuel, Calls: []api.Call{{Args: words(7)}}}
		if fuel >= 3 {
			want.Trace = append(want.Trace, 7)
		}
		if fuel >= 9 {
			want.Trace = append(want.Trace, 7)
		}
		if fuel >= 10 {
			want.End, want.N, want.Steps = api.EndPanic, 9, 10
		}
		runs(t, "fuel", Unit(m), words(7), fuel, want)
	}
}

// TestFuelAhead: with no fuel left a value that would end the run otherwise does not, nor does a block's end.
func TestFuelAhead(t *testing.T) {
	byZero, nowhere, large, panics, exits := Begin(), Begin(), Begin(), Begin(), Begin()
	byZero.Bin(api.BinDiv, I64, byZero.Num(1), byZero.Num(0))
	nowhere.Num(0)
	nowhere.Load(U8, nowhere.Point(0), 0)
	large.Num(0)
	large.Block(minus(1))
	for range 2 {
		panics.Num(0)
		exits.Num(0)
	}
	panics.Panics(5)
	exits.Ret(1)
	for _, x := range []struct {
		m   *Maker
		end int
		n   int64
	}{{byZero.Done(), api.EndStuck, 0}, {nowhere.Done(), api.EndStuck, 0}, {large.Done(), api.EndResource, 0}, {panics, api.EndPanic, 5}, {exits, api.EndExit, 0}} {
		for fuel := range 6 {
			want := api.Run{End: api.EndFuel, Steps: fuel, Calls: []api.Call{{}}}
			if fuel >= 4 {
				want.End, want.N, want.Steps = x.end, x.n, 4
				if x.end == api.EndExit {
					want.Calls = []api.Call{{Back: true, Results: words(0)}}
				}
			}
			runs(t, "ahead", Unit(x.m), nil, fuel, want)
		}
	}
}

// TestNothingToDo: a block's end takes fuel where there is nothing else, an OpPhi none.
func TestNothingToDo(t *testing.T) {
	m := Begin()
	x := m.Num(0)
	m.Plain(1)
	m.Next(0, 1)
	i := m.Phi(I64)
	m.Takes(i, x, i)
	m.Plain(1)
	for _, fuel := range []int{0, 1, 2, 3, 4, 100, api.MaxFuel} {
		runs(t, "without end", Unit(m), nil, fuel, api.Run{End: api.EndFuel, Steps: fuel, Calls: []api.Call{{}}})
	}
}
