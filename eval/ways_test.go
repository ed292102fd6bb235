package eval_test

import (
	"slices"
	"testing"

	"gantry/api"
)

// counter counts from 0 up to its argument, tells each number behind 0, and then their sum.
func counter() *maker {
	m := begin(i64)
	zero, one := m.num(0), m.num(1)
	m.plain(1)
	m.next(0, 2)
	i, sum, loop := m.phi(i64), m.phi(i64), m.memoryPhi()
	m.branch(m.bin(api.BinLt, i64, i, 1), 2, 3)
	m.next(1)
	more := m.bin(api.BinAdd, i64, i, one)
	sums := m.bin(api.BinAdd, i64, sum, more)
	m.emit(more)
	m.takes(i, zero, more)
	m.takes(sum, zero, sums)
	m.takes(loop, 0, m.memory)
	m.plain(1)
	m.next(1)
	m.ret(sum)
	return m
}

// TestLoop: P15.1: a loop, and its steps.
func TestLoop(t *testing.T) {
	u := unit(counter())
	for _, x := range []struct {
		n     uint64
		trace []uint64
		sum   int64
	}{{0, nil, 0}, {minus(5), nil, 0}, {1, words(1), 1}, {4, words(1, 2, 3, 4), 10}} {
		// Block 0, the head at last, the end; and in each round the head and block 2.
		steps := 5 + 2 + 1 + len(x.trace)*(2+4)
		want := api.Run{Trace: x.trace, End: api.EndExit, N: x.sum, Steps: steps, Calls: []api.Call{{Args: words(x.n), Back: true, Results: words(uint64(x.sum))}}}
		runs(t, "a loop", u, words(x.n), 1000, want)
	}
}

// sides begins a function that goes by its argument, a bool, to one or to the other block.
func sides(to, other int) *maker {
	m := begin(yes)
	m.branch(1, to, other)
	return m
}

// both holds what a unit ends with, if it is given true, and if it is given false.
func both(t *testing.T, name string, m *maker, yes, no int64) {
	t.Helper()
	ends(t, name+", yes", unit(m), words(1), api.EndExit, yes)
	ends(t, name+", no", unit(m), words(0), api.EndExit, no)
}

// TestBranch: a BlockIf goes on with Succs[0], if Args[0] is true, else with Succs[1]; the block that was not gone to is not seen.
func TestBranch(t *testing.T) {
	for _, yes := range []int{1, 2} {
		m := sides(yes, 3-yes)
		m.next(0)
		m.ret(m.num(1))
		m.next(0)
		m.ret(m.num(2))
		both(t, "apart", m, int64(yes), int64(3-yes))
	}
	m := sides(1, 2)
	m.next(0)
	m.emit(m.num(5))
	m.panics(7)
	m.next(0)
	m.load(u8, m.point(0), 0)
	m.done()
	ends(t, "a panic", unit(m), words(1), api.EndPanic, 7, 5)
	ends(t, "a load", unit(m), words(0), api.EndStuck, 0)
}

// TestPhis: an OpPhi takes the i-th of Args, if it was come from the i-th of Preds, whatever order these have.
func TestPhis(t *testing.T) {
	for _, turned := range []bool{false, true} {
		m := sides(1, 2)
		m.next(0)
		preds, takes := kinds(1, 2), kinds(m.num(5))
		m.plain(3)
		m.next(0)
		takes = append(takes, m.num(6))
		m.plain(3)
		if turned {
			slices.Reverse(preds)
			slices.Reverse(takes)
		}
		m.next(preds...)
		m.ret(m.phi(i64, takes...))
		both(t, "joined", m, 5, 6)
	}
	for _, turned := range []bool{false, true} {
		m := begin(yes)
		preds, takes := kinds(0, 1), kinds(m.num(5), m.num(6))
		m.branch(1, 2, 1)
		m.next(0)
		m.plain(2)
		if turned {
			slices.Reverse(preds)
			slices.Reverse(takes)
		}
		m.next(preds...)
		m.ret(m.phi(i64, takes...))
		both(t, "one side", m, 5, 6)
	}
	m := begin()
	x := m.num(7)
	m.plain(1)
	m.next(0)
	m.ret(m.phi(i64, x))
	ends(t, "one way alone", unit(m), nil, api.EndExit, 7)
}

// TestMemoryPhis: an OpPhi of KindMem has no word; what others take hangs on no such one ahead of them.
func TestMemoryPhis(t *testing.T) {
	m := begin(yes)
	five, six := m.num(5), m.num(6)
	m.branch(1, 1, 2)
	m.next(0)
	m.emit(five)
	m.plain(3)
	m.next(0)
	m.alloc(m.con(u64, 8))
	m.plain(3)
	m.next(2, 1)
	n := m.phi(i64, six, five)
	m.memoryPhi(m.memory, m.ends[1])
	other := m.phi(i64, five, six)
	m.emit(other)
	m.ret(n)
	ends(t, "yes", unit(m), words(1), api.EndExit, 5, 5, 6)
	ends(t, "no", unit(m), words(0), api.EndExit, 6, 5)
}

// TestTwice: of a BlockIf whose Succs are one block Succs[0] goes with the first one of both Preds.
func TestTwice(t *testing.T) {
	m := begin(yes)
	five, six := m.num(5), m.num(6)
	m.branch(1, 1, 1)
	m.next(0, 0)
	x := m.phi(i64, five, six)
	m.ret(x)
	both(t, "a block twice", m, 5, 6)
	m.takes(x, six, five)
	both(t, "a block twice, the other way round", m, 6, 5)

	for at := range 3 {
		m := begin(yes, yes)
		preds, takes := kinds(1, 1), kinds(m.num(5), m.num(6))
		seven := m.num(7)
		m.branch(1, 1, 2)
		m.next(0)
		m.branch(2, 3, 3)
		m.next(0)
		m.plain(3)
		m.next(slices.Insert(preds, at, 2)...)
		m.ret(m.phi(i64, slices.Insert(takes, at, seven)...))
		ends(t, "Succs[0]", unit(m), words(1, 1), api.EndExit, 5)
		ends(t, "Succs[1]", unit(m), words(1, 0), api.EndExit, 6)
		ends(t, "from elsewhere", unit(m), words(0, 0), api.EndExit, 7)
		ends(t, "from elsewhere, whatever the other one says", unit(m), words(0, 1), api.EndExit, 7)
	}
}

// TestTwiceInLoop: a block that is its own next one by both of its ways.
func TestTwiceInLoop(t *testing.T) {
	m := begin()
	zero, one, three := m.num(0), m.num(1), m.num(3)
	m.plain(1)
	m.next(1, 0, 1)
	i, loop := m.phi(i64), m.memoryPhi()
	m.emit(i)
	up := m.bin(api.BinAdd, i64, i, one)
	down := m.bin(api.BinSub, i64, i, three)
	m.takes(i, up, zero, down)
	m.takes(loop, m.memory, 0, m.memory)
	m.branch(m.bin(api.BinLt, i64, i, three), 1, 1)
	if r := ran(t, "a loop", unit(m), nil, 5+5*6); !slices.Equal(r.Trace, words(0, 1, 2, 3, 0, 1)) || r.End != api.EndFuel {
		t.Errorf("%+v", r)
	}
}

// TestPhisAtOnce: OpPhis of one block are laid all at once: what one takes of another one is what that was.
func TestPhisAtOnce(t *testing.T) {
	for turns := range 6 {
		m := begin()
		var first, phis []int
		for i := range uint64(5) {
			first = append(first, m.num(10+i))
		}
		m.plain(1)
		m.next(0, 1)
		for range 5 {
			phis = append(phis, m.phi(i64))
		}
		// Three go round, the fourth stays, the fifth follows the first.
		for i, from := range []int{1, 2, 0, 3, 0} {
			m.takes(phis[i], first[i], phis[from])
		}
		loop := m.memoryPhi()
		for _, p := range phis {
			m.emit(p)
		}
		m.takes(loop, 0, m.memory)
		m.plain(1)
		// Their order in List says nothing.
		l := m.Blocks[1].List[:6]
		copy(l, slices.Concat(l[turns:], l[:turns]))
		want := words(10, 11, 12, 13, 14, 11, 12, 10, 13, 10, 12, 10, 11, 13, 11, 10, 11, 12, 13, 12)
		if r := ran(t, "at once", unit(m), nil, 7+6*4); !slices.Equal(r.Trace, want) {
			t.Errorf("%d: %d", turns, r.Trace)
		}
	}
}

// TestOldWords: an OpPhi keeps its word until its block is come to again, whatever becomes of what it took.
func TestOldWords(t *testing.T) {
	m := begin()
	zero, one := m.num(0), m.num(1)
	m.plain(1)
	m.next(0, 1)
	i, last, loop := m.phi(i64), m.phi(i64), m.memoryPhi()
	more := m.bin(api.BinAdd, i64, i, one)
	m.emit(m.bin(api.BinMul, i64, last, more))
	m.takes(i, zero, more)
	m.takes(last, one, i)
	m.takes(loop, 0, m.memory)
	m.plain(1)
	if r := ran(t, "the one before", unit(m), nil, 4+4*5); !slices.Equal(r.Trace, words(1, 0, 3, 8, 15)) {
		t.Errorf("%d", r.Trace)
	}
}

// TestListsOrder: values are worked out in List's order, not in that of their numbers; holes are nothing.
func TestListsOrder(t *testing.T) {
	values := []api.Value{
		{Op: api.OpEmit, Kind: mem, Args: kinds(4, 3)}, {Op: api.OpConst, Kind: i64, N: 2}, {}, {Op: api.OpEmit, Kind: mem, Args: kinds(1, 5)}, {Op: api.OpConst, Kind: i64, N: 3}, {Op: api.OpInit, Kind: mem},
	}
	blocks := []api.Block{{Kind: api.BlockPlain, Succs: kinds(2), List: kinds(5, 1, 3)}, {}, {Kind: api.BlockRet, Preds: kinds(0), Args: kinds(4, 0), List: kinds(4, 0)}}
	u := api.Unit{Codes: []api.Code{{Results: kinds(i64), Values: values, Blocks: blocks}}}
	runs(t, "another order", u, nil, 9, api.Run{Trace: words(2, 3), End: api.EndExit, N: 3, Steps: 7, Calls: []api.Call{{Back: true, Results: words(3)}}})
}

// TestFuel: each value but an OpPhi takes one fuel, and each block's end, ahead: nothing is done of what there is none for.
func TestFuel(t *testing.T) {
	m := begin(i64)
	m.emit(1)
	m.plain(1)
	m.next(0)
	x := m.phi(i64, 1)
	m.memoryPhi(2)
	m.store(m.block(8), 0, x)
	m.emit(x)
	m.panics(9)
	// OpInit, OpArg, OpEmit, the end; OpConst, OpAlloc, OpBlock, OpStore, OpEmit, the end.
	for fuel := range 15 {
		want := api.Run{End: api.EndFuel, Steps: fuel, Calls: []api.Call{{Args: words(7)}}}
		if fuel >= 3 {
			want.Trace = append(want.Trace, 7)
		}
		if fuel >= 9 {
			want.Trace = append(want.Trace, 7)
		}
		if fuel >= 10 {
			want.End, want.N, want.Steps = api.EndPanic, 9, 10
		}
		runs(t, "fuel", unit(m), words(7), fuel, want)
	}
}

// TestFuelAhead: with no fuel left a value that would end the run otherwise does not, nor does a block's end.
func TestFuelAhead(t *testing.T) {
	byZero, nowhere, large, panics, exits := begin(), begin(), begin(), begin(), begin()
	byZero.bin(api.BinDiv, i64, byZero.num(1), byZero.num(0))
	nowhere.num(0)
	nowhere.load(u8, nowhere.point(0), 0)
	large.num(0)
	large.block(minus(1))
	for range 2 {
		panics.num(0)
		exits.num(0)
	}
	panics.panics(5)
	exits.ret(1)
	for _, x := range []struct {
		m   *maker
		end int
		n   int64
	}{{byZero.done(), api.EndStuck, 0}, {nowhere.done(), api.EndStuck, 0}, {large.done(), api.EndResource, 0}, {panics, api.EndPanic, 5}, {exits, api.EndExit, 0}} {
		for fuel := range 6 {
			want := api.Run{End: api.EndFuel, Steps: fuel, Calls: []api.Call{{}}}
			if fuel >= 4 {
				want.End, want.N, want.Steps = x.end, x.n, 4
				if x.end == api.EndExit {
					want.Calls = []api.Call{{Back: true, Results: words(0)}}
				}
			}
			runs(t, "ahead", unit(x.m), nil, fuel, want)
		}
	}
}

// TestNothingToDo: a block's end takes fuel where there is nothing else, an OpPhi none.
func TestNothingToDo(t *testing.T) {
	m := begin()
	x := m.num(0)
	m.plain(1)
	m.next(0, 1)
	i := m.phi(i64)
	m.takes(i, x, i)
	m.plain(1)
	for _, fuel := range []int{0, 1, 2, 3, 4, 100, api.MaxFuel} {
		runs(t, "without end", unit(m), nil, fuel, api.Run{End: api.EndFuel, Steps: fuel, Calls: []api.Call{{}}})
	}
}
