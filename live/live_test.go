package live

import (
	"fmt"
	"slices"
	"testing"

	"gantry/api"
	"gantry/ssa"
)

func list(l ...int) []int { return l }

// Values, as few words as can be. Each program's value 0 is its OpInit.
var (
	begin = api.Value{Op: api.OpInit, Kind: api.KindMem}
	num   = api.Value{Op: api.OpConst, Kind: api.KindI64, N: 7}
	flag  = api.Value{Op: api.OpConst, Kind: api.KindBool, N: 1}
	gone  = api.Value{}
)

func neg(x int) api.Value {
	return api.Value{Op: api.OpUn, Kind: api.KindI64, N: api.UnNeg, Args: list(x)}
}

func add(x, y int) api.Value {
	return api.Value{Op: api.OpBin, Kind: api.KindI64, N: api.BinAdd, Args: list(x, y)}
}

func phi(args ...int) api.Value {
	return api.Value{Op: api.OpPhi, Kind: api.KindI64, Args: args}
}

func memPhi(args ...int) api.Value {
	return api.Value{Op: api.OpPhi, Kind: api.KindMem, Args: args}
}

func emit(x, m int) api.Value {
	return api.Value{Op: api.OpEmit, Kind: api.KindMem, Args: list(x, m)}
}

// Blocks: where they go on, their Lists.
func plain(to int, l ...int) api.Block {
	return api.Block{Kind: api.BlockPlain, Succs: list(to), List: l}
}

func branch(x, to, other int, l ...int) api.Block {
	return api.Block{Kind: api.BlockIf, Args: list(x), Succs: list(to, other), List: l}
}

func ret(args []int, l ...int) api.Block {
	return api.Block{Kind: api.BlockRet, Args: args, List: l}
}

// from tells the block with its Preds in that order.
func from(b api.Block, preds ...int) api.Block {
	b.Preds = preds
	return b
}

// code tells the Code of these values and blocks; Preds are found, rising, of blocks that have none. As many KindI64 are its Results as a BlockRet has Args beside the memory.
func code(values []api.Value, blocks ...api.Block) api.Code {
	c := api.Code{Values: values, Blocks: blocks}
	found := make([][]int, len(blocks))
	for b, x := range blocks {
		for _, s := range x.Succs {
			found[s] = append(found[s], b)
		}
		if x.Kind == api.BlockRet {
			c.Results = slices.Repeat(list(api.KindI64), len(x.Args)-1)
		}
	}
	for b := range blocks {
		if blocks[b].Preds == nil {
			blocks[b].Preds = found[b]
		}
	}
	return c
}

func alone(values []api.Value, blocks ...api.Block) api.Unit {
	return api.Unit{Codes: []api.Code{code(values, blocks...)}}
}

// known is a program, and what is told of one of its functions.
type known struct {
	name           string
	u              api.Unit
	ins, outs, far string
}

// hold asks all calls of a function.
func hold(t *testing.T, x known, f int) {
	t.Helper()
	if e := ssa.Check(x.u); e != api.OK {
		t.Fatalf("%s: not right: %d", x.name, e)
	}
	if l, e := Ins(x.u, f); e != api.OK || fmt.Sprint(l) != x.ins {
		t.Errorf("%s: Ins: %v, %d, not %s", x.name, l, e, x.ins)
	}
	if l, e := Outs(x.u, f); e != api.OK || fmt.Sprint(l) != x.outs {
		t.Errorf("%s: Outs: %v, %d, not %s", x.name, l, e, x.outs)
	}
	if l, e := Far(x.u, f); e != api.OK || fmt.Sprint(l) != x.far {
		t.Errorf("%s: Far: %v, %d, not %s", x.name, l, e, x.far)
	}
}

type values = []api.Value

// TestOrdinary: P14.1, P14.2: rows, branches.
func TestOrdinary(t *testing.T) {
	for _, x := range []known{
		{"not used", alone(values{begin, num}, plain(1, 0, 1), ret(list(0))),
			"[[] []]", "[[] []]", "[[] []]"},
		{"used in its own block alone", alone(values{begin, num, neg(1)}, plain(1, 0, 1, 2), ret(list(0))),
			"[[] []]", "[[] []]", "[[] []]"},
		{"used in its own block and in the next one", alone(values{begin, num, neg(1), neg(1)}, plain(1, 0, 1, 2), ret(list(0), 3)),
			"[[] [1]]", "[[1] []]", "[[{1 0}] []]"},
		{"used in the next one", alone(values{begin, num, num, num, neg(1)}, plain(1, 0, 1), ret(list(0), 2, 3, 4)),
			"[[] [1]]", "[[1] []]", "[[{1 2}] []]"},
		{"used in a later one", alone(values{begin, num, num, num, num, neg(1)}, plain(1, 0, 1), plain(2, 2, 3), ret(list(0), 4, 5)),
			"[[] [1] [1]]", "[[1] [1] []]", "[[{1 4}] [{1 1}] []]"},
		{"used in the next one and in a later one", alone(values{begin, num, num, neg(1), num, neg(1)}, plain(1, 0, 1), plain(2, 2, 3), ret(list(0), 4, 5)),
			"[[] [1] [1]]", "[[1] [1] []]", "[[{1 1}] [{1 1}] []]"},
		{"used more than once in a block, and by its Args too", alone(values{begin, num, num, add(2, 1), add(1, 1), neg(1)}, plain(1, 0, 1), ret(list(1, 0), 2, 3, 4, 5)),
			"[[] [1]]", "[[1] []]", "[[{1 1}] []]"},
		{"as the second of Args", alone(values{begin, num, num, add(2, 1)}, plain(1, 0, 1, 2), ret(list(0), 3)),
			"[[] [1 2]]", "[[1 2] []]", "[[{1 0} {2 0}] []]"},
		{"on one side of a branch", alone(values{begin, num, flag, neg(1)}, branch(2, 1, 2, 0, 1, 2), plain(3, 3), plain(3), ret(list(0))),
			"[[] [1] [] []]", "[[1] [] [] []]", "[[{1 0}] [] [] []]"},
		{"on the other side", alone(values{begin, num, flag, neg(1)}, branch(2, 1, 2, 0, 1, 2), plain(3), plain(3, 3), ret(list(0))),
			"[[] [] [1] []]", "[[1] [] [] []]", "[[{1 0}] [] [] []]"},
		{"on both sides, nearer on the second", alone(values{begin, num, flag, num, num, neg(1), num, neg(1)}, branch(2, 1, 2, 0, 1, 2), plain(3, 3, 4, 5), plain(3, 6, 7), ret(list(0))),
			"[[] [1] [1] []]", "[[1] [] [] []]", "[[{1 1}] [] [] []]"},
		{"on both sides, nearer on the first", alone(values{begin, num, flag, num, neg(1), num, num, neg(1)}, branch(2, 1, 2, 0, 1, 2), plain(3, 3, 4), plain(3, 5, 6, 7), ret(list(0))),
			"[[] [1] [1] []]", "[[1] [] [] []]", "[[{1 1}] [] [] []]"},
		{"behind a branch, by the side with fewer values", alone(values{begin, num, flag, num, num, num, neg(1)}, branch(2, 1, 2, 0, 1, 2), plain(3, 3, 4), plain(3, 5), ret(list(0), 6)),
			"[[] [1] [1] [1]]", "[[1] [1] [1] []]", "[[{1 2}] [{1 0}] [{1 0}] []]"},
		{"behind a branch, by the side with more blocks", alone(values{begin, num, flag, num, num, num, num, num, neg(1)}, branch(2, 1, 2, 0, 1, 2), plain(5, 3, 4, 5, 6, 7), plain(3), plain(4), plain(5), ret(list(0), 8)),
			"[[] [1] [1] [1] [1] [1]]", "[[1] [1] [1] [1] [1] []]", "[[{1 3}] [{1 0}] [{1 2}] [{1 1}] [{1 0}] []]"},
		{"on one side at once, behind the other later", alone(values{begin, num, flag, num, num, num, neg(1), neg(1)}, branch(2, 1, 2, 0, 1, 2), plain(3, 3, 4, 5, 6), plain(3), ret(list(0), 7)),
			"[[] [1] [1] [1]]", "[[1] [1] [1] []]", "[[{1 1}] [{1 0}] [{1 0}] []]"},
	} {
		hold(t, x, 0)
	}
}

// TestLoops: P14.1, P14.2: values ahead of loops, in them, behind them.
func TestLoops(t *testing.T) {
	for _, x := range []known{
		{"the chapter's example", alone(values{begin, num, flag, num, neg(1)}, plain(1, 0, 1), branch(2, 2, 3, 2), plain(1, 3), ret(list(0), 4)),
			"[[] [1] [1] [1]]", "[[1] [1] [1] []]", "[[{1 2}] [{1 0}] [{1 2}] []]"},
		{"the chapter's example, the head with more values", alone(values{begin, num, flag, num, neg(1), num, num}, plain(1, 0, 1), branch(2, 2, 3, 2, 5, 6), plain(1, 3), ret(list(0), 4)),
			"[[] [1] [1] [1]]", "[[1] [1] [1] []]", "[[{1 4}] [{1 0}] [{1 4}] []]"},
		{"within a loop", alone(values{begin, num, flag, num, neg(1)}, plain(1, 0, 1), branch(2, 2, 3, 2), plain(1, 3, 4), ret(list(0))),
			"[[] [1] [1] []]", "[[1] [1] [1] []]", "[[{1 3}] [{1 1}] [{1 3}] []]"},
		{"in a loop's head", alone(values{begin, num, flag, num, neg(1)}, plain(1, 0, 1), branch(2, 2, 3, 2, 4), plain(1, 3), ret(list(0))),
			"[[] [1] [1] []]", "[[1] [1] [1] []]", "[[{1 1}] [{1 3}] [{1 1}] []]"},
		{"made in a loop, used there and behind it", alone(values{begin, num, flag, neg(1), neg(3), neg(3)}, plain(1, 0, 1), branch(2, 2, 3, 2, 3), plain(1, 4), ret(list(0), 5)),
			"[[] [1] [1 3] [3]]", "[[1] [1 3] [1] []]", "[[{1 1}] [{1 3} {3 0}] [{1 1}] []]"},
		{"a number that goes up, and one that stays", alone(values{begin, num, num, flag, phi(1, 6), neg(4), add(4, 2), neg(4)}, plain(1, 0, 1, 2), branch(3, 2, 3, 4, 3, 5), plain(1, 6), ret(list(0), 7)),
			"[[] [2] [2 4] [4]]", "[[1 2] [2 4] [2 6] []]", "[[{1 0} {2 4}] [{2 0} {4 0}] [{2 4} {6 0}] []]"},
		{"an inner loop, used in the outer one", alone(values{begin, num, flag, flag, neg(1)}, plain(1, 0, 1), plain(2), branch(2, 2, 3, 2), branch(3, 1, 4, 3, 4), ret(list(0))),
			"[[] [1] [1] [1] []]", "[[1] [1] [1] [1] []]", "[[{1 4}] [{1 3}] [{1 1}] [{1 4}] []]"},
		{"a loop without end", alone(values{begin, num, neg(1), num}, plain(1, 0, 1, 3), plain(2, 2), plain(1)),
			"[[] [1] [1]]", "[[1] [1] [1]]", "[[{1 0}] [{1 1}] [{1 0}]]"},
		{"entered at two places", alone(values{begin, num, flag, num, num, neg(1)}, branch(2, 1, 2, 0, 1, 2), plain(2, 3, 4), branch(2, 1, 3), ret(list(0), 5)),
			"[[] [1 2] [1 2] [1]]", "[[1 2] [1 2] [1 2] []]", "[[{1 1} {2 0}] [{1 1} {2 0}] [{1 0} {2 3}] []]"},
	} {
		hold(t, x, 0)
	}
}

// TestPhis: P14.1, P14.2: what OpPhis use is used at the ends of Preds.
func TestPhis(t *testing.T) {
	for _, x := range []known{
		{"one way or the other", alone(values{begin, num, num, flag, num, phi(1, 2)}, branch(3, 1, 2, 0, 1, 2, 3), plain(3, 4), plain(3), ret(list(0), 5)),
			"[[] [1] [2] []]", "[[1 2] [1] [2] []]", "[[{1 2} {2 1}] [{1 0}] [{2 0}] []]"},
		{"the same, Preds the other way round", alone(values{begin, num, num, flag, num, phi(1, 2)}, branch(3, 1, 2, 0, 1, 2, 3), plain(3, 4), plain(3), from(ret(list(0), 5), 2, 1)),
			"[[] [2] [1] []]", "[[1 2] [2] [1] []]", "[[{1 1} {2 2}] [{2 0}] [{1 0}] []]"},
		{"both ways", alone(values{begin, num, flag, num, phi(1, 1)}, branch(2, 1, 2, 0, 1, 2), plain(3, 3), plain(3), ret(list(0), 4)),
			"[[] [1] [1] []]", "[[1] [1] [1] []]", "[[{1 1}] [{1 0}] [{1 0}] []]"},
		{"made where it is used so", alone(values{begin, num, flag, num, phi(3, 1)}, branch(2, 1, 2, 0, 1, 2), plain(3, 3), plain(3), ret(list(0), 4)),
			"[[] [] [1] []]", "[[1] [3] [1] []]", "[[{1 1}] [{3 0}] [{1 0}] []]"},
		{"one way alone", alone(values{begin, num, phi(1)}, plain(1, 0, 1), ret(list(0), 2)),
			"[[] []]", "[[1] []]", "[[{1 0}] []]"},
		{"two OpPhis, as many values", alone(values{begin, num, num, phi(1), phi(2)}, plain(1, 0, 1, 2), ret(list(0), 3, 4)),
			"[[] []]", "[[1 2] []]", "[[{1 0} {2 0}] []]"},
		{"itself, a block that is its own next one", alone(values{begin, num, flag, phi(1, 3)}, plain(1, 0, 1), branch(2, 1, 2, 3, 2), ret(list(0))),
			"[[] [] []]", "[[1] [3] []]", "[[{1 0}] [{3 0}] []]"},
		{"itself, a longer loop", alone(values{begin, num, flag, phi(1, 3), num, num}, plain(1, 0, 1), branch(2, 2, 3, 3, 2), plain(1, 4, 5), ret(list(0))),
			"[[] [] [3] []]", "[[1] [3] [3] []]", "[[{1 0}] [{3 3}] [{3 0}] []]"},
		{"another one of its block, and that one it", alone(values{begin, num, num, flag, phi(1, 5), phi(2, 4)}, plain(1, 0, 1, 2), branch(3, 1, 2, 4, 5, 3), ret(list(0))),
			"[[] [] []]", "[[1 2] [4 5] []]", "[[{1 0} {2 0}] [{4 0} {5 0}] []]"},
		{"another one of its block, a longer loop", alone(values{begin, num, num, flag, phi(1, 5), phi(2, 2), num}, plain(1, 0, 1, 2), branch(3, 2, 3, 4, 5, 3), plain(1, 6), ret(list(0))),
			"[[] [2] [2 5] []]", "[[1 2] [2 5] [2 5] []]", "[[{1 0} {2 0}] [{2 2} {5 2}] [{2 0} {5 0}] []]"},
		{"and needed at that block's beginning too", alone(values{begin, num, phi(1), num, neg(1)}, plain(1, 0, 1), ret(list(0), 2, 3, 4)),
			"[[] [1]]", "[[1] []]", "[[{1 0}] []]"},
		{"for one way, and needed at that block's beginning by all", alone(values{begin, num, num, flag, num, phi(1, 2), num, neg(1)}, branch(3, 1, 2, 0, 1, 2, 3), plain(3, 4), plain(3), ret(list(0), 5, 6, 7)),
			"[[] [1] [1 2] [1]]", "[[1 2] [1] [1 2] []]", "[[{1 2} {2 1}] [{1 0}] [{1 2} {2 0}] []]"},
		{"for this way, and used on the other side later", alone(values{begin, num, flag, phi(1), num, neg(1)}, branch(2, 1, 2, 0, 1, 2), ret(list(0), 3), ret(list(0), 4, 5)),
			"[[] [] [1]]", "[[1] [] []]", "[[{1 0}] [] []]"},
		{"ahead of it in the block that uses it so", alone(values{begin, num, flag, num, neg(1), phi(1, 4)}, branch(2, 1, 2, 0, 1, 2), plain(3, 3, 4), plain(3), from(ret(list(0), 5), 2, 1)),
			"[[] [1] [1] []]", "[[1] [4] [1] []]", "[[{1 1}] [{4 0}] [{1 0}] []]"},
		{"OpPhis count in places", alone(values{begin, num, phi(1), phi(1), neg(1)}, plain(1, 0, 1), plain(2), from(ret(list(0), 2, 3, 4), 1)),
			"[[] [1] [1]]", "[[1] [1] []]", "[[{1 1}] [{1 0}] []]"},
		{"OpPhis count in places that are not theirs", alone(values{begin, num, num, phi(2), phi(2), neg(1)}, plain(1, 0, 1, 2), ret(list(0), 3, 4, 5)),
			"[[] [1]]", "[[1 2] []]", "[[{1 2} {2 0}] []]"},
	} {
		hold(t, x, 0)
	}
}

// TestEdges: P14.1, P14.2: Args alone, empty Lists, blocks that are their own next ones or another's twice, holes.
func TestEdges(t *testing.T) {
	for _, x := range []known{
		{"one block alone", alone(values{begin, num}, ret(list(1, 0), 0, 1)),
			"[[]]", "[[]]", "[[]]"},
		{"by a BlockIf's Args alone", alone(values{begin, flag, num, num}, plain(1, 0, 1), branch(1, 2, 3, 2, 3), ret(list(0)), ret(list(0))),
			"[[] [1] [] []]", "[[1] [] [] []]", "[[{1 2}] [] [] []]"},
		{"by a BlockRet's Args alone", alone(values{begin, num, num, num}, plain(1, 0, 1), ret(list(1, 0), 2, 3)),
			"[[] [1]]", "[[1] []]", "[[{1 2}] []]"},
		{"by a BlockRet's Args alone, more than one", alone(values{begin, num, num, num}, plain(1, 0, 1, 3), ret(list(3, 1, 3, 0), 2)),
			"[[] [1 3]]", "[[1 3] []]", "[[{1 1} {3 1}] []]"},
		{"by Args of a block with an empty List", alone(values{begin, num}, plain(1, 0, 1), ret(list(1, 0))),
			"[[] [1]]", "[[1] []]", "[[{1 0}] []]"},
		{"through blocks with empty Lists", alone(values{begin, num}, plain(1, 0, 1), plain(2), plain(3), ret(list(1, 0))),
			"[[] [1] [1] [1]]", "[[1] [1] [1] []]", "[[{1 2}] [{1 1}] [{1 0}] []]"},
		{"a BlockPanic, which uses memory alone", alone(values{begin, num}, plain(1, 0, 1), api.Block{Kind: api.BlockPanic, N: 3, Args: list(0)}),
			"[[] []]", "[[] []]", "[[] []]"},
		{"its own next one, which uses it", alone(values{begin, num, flag, neg(1)}, plain(1, 0, 1), branch(2, 1, 2, 2, 3), ret(list(0))),
			"[[] [1] []]", "[[1] [1] []]", "[[{1 1}] [{1 1}] []]"},
		{"its own next one, which does not", alone(values{begin, num, flag, num, neg(1)}, plain(1, 0, 1), branch(2, 1, 2, 2), ret(list(0), 3, 4)),
			"[[] [1] [1]]", "[[1] [1] []]", "[[{1 3}] [{1 1}] []]"},
		{"its own next one, without end", alone(values{begin, num, neg(1), num}, plain(1, 0, 1, 3), plain(1, 2)),
			"[[] [1]]", "[[1] [1]]", "[[{1 0}] [{1 0}]]"},
		{"its own next one, twice", alone(values{begin, num, flag, phi(1, 3, 4), neg(1)}, plain(1, 0, 1), branch(2, 1, 1, 3, 2, 4)),
			"[[] [1]]", "[[1] [1 3 4]]", "[[{1 0}] [{1 2} {3 0} {4 0}]]"},
		{"its own next one, by Args with an empty List", alone(values{begin, flag}, plain(1, 0, 1), branch(1, 1, 2), ret(list(0))),
			"[[] [1] []]", "[[1] [1] []]", "[[{1 0}] [{1 0}] []]"},
		{"another twice", alone(values{begin, num, flag, num, neg(1)}, branch(2, 1, 1, 0, 1, 2), ret(list(0), 3, 4)),
			"[[] [1]]", "[[1] []]", "[[{1 1}] []]"},
		{"another twice, an OpPhi for each way", alone(values{begin, num, num, flag, phi(1, 2)}, branch(3, 1, 1, 0, 1, 2, 3), ret(list(0), 4)),
			"[[] []]", "[[1 2] []]", "[[{1 0} {2 0}] []]"},
		{"another twice, an OpPhi for one of the ways, needed by the other one", alone(values{begin, num, num, flag, phi(1, 2), neg(2)}, branch(3, 1, 1, 0, 1, 2, 3), ret(list(0), 4, 5)),
			"[[] [2]]", "[[1 2] []]", "[[{1 0} {2 0}] []]"},
		{"holes", alone(values{gone, begin, gone, num, flag, gone, neg(3), num}, branch(4, 5, 2, 1, 3, 4), api.Block{}, plain(4, 7), api.Block{}, ret(list(1), 6), plain(4), api.Block{}),
			"[[] [] [3] [] [3] [3] []]", "[[3] [] [3] [] [] [3] []]", "[[{3 1}] [] [{3 0}] [] [] [{3 0}] []]"},
		{"a number above its users'", alone(values{begin, neg(3), neg(3), num}, plain(2, 0, 3), ret(list(0), 1), plain(1, 2)),
			"[[] [3] [3]]", "[[3] [] [3]]", "[[{3 0}] [] [{3 0}]]"},
	} {
		hold(t, x, 0)
	}
}

// TestMemory: P14.1, P14.2: values of KindMem do not count, whoever uses them.
func TestMemory(t *testing.T) {
	size := api.Value{Op: api.OpConst, Kind: api.KindU64, N: 8}
	alloc := api.Value{Op: api.OpAlloc, Kind: api.KindMem, Args: list(1, 0)}
	block := api.Value{Op: api.OpBlock, Kind: api.KindPtr, Args: list(2)}
	load := api.Value{Op: api.OpLoad, Kind: api.KindI64, Args: list(3, 2)}
	store := api.Value{Op: api.OpStore, Kind: api.KindMem, Args: list(3, 4, 2)}
	call := api.Value{Op: api.OpCall, Kind: api.KindMem, N: 0, Args: list(0)}
	result := api.Value{Op: api.OpResult, Kind: api.KindI64, Args: list(1)}
	for _, x := range []known{
		{"a store's, an OpBlock's", alone(values{begin, size, alloc, block, load, store}, plain(1, 0, 1, 2), plain(2, 3, 4), plain(3, 5), ret(list(5))),
			"[[] [] [3 4] []]", "[[] [3 4] [] []]", "[[] [{3 0} {4 0}] [] []]"},
		{"a call's, an OpResult's", alone(values{begin, call, result}, plain(1, 0, 1), plain(2, 2), ret(list(2, 1))),
			"[[] [] [2]]", "[[] [2] []]", "[[] [{2 0}] []]"},
		{"OpPhis'", alone(values{begin, num, flag, memPhi(0, 4), emit(1, 3)}, plain(1, 0, 1), branch(2, 2, 3, 3, 2), plain(1, 4), ret(list(3))),
			"[[] [1] [1] []]", "[[1] [1] [1] []]", "[[{1 3}] [{1 0}] [{1 3}] []]"},
		{"OpPhis', places count", alone(values{begin, num, memPhi(0), neg(1)}, plain(1, 0, 1), ret(list(2), 2, 3)),
			"[[] [1]]", "[[1] []]", "[[{1 1}] []]"},
	} {
		hold(t, x, 0)
	}
}

// TestBeside: P14.1, P14.2: the function that is asked, whatever stands beside it.
func TestBeside(t *testing.T) {
	u := api.Unit{Codes: []api.Code{
		code(values{begin, num, num, neg(1)}, plain(1, 0, 1), ret(list(0), 2, 3)),
		code(values{begin}, ret(list(0), 0)),
		code(values{begin, num, num}, plain(2, 0), api.Block{}, plain(3, 1, 2), ret(list(2, 1, 0))),
	}}
	hold(t, known{"the first", u, "[[] [1]]", "[[1] []]", "[[{1 1}] []]"}, 0)
	hold(t, known{"the second", u, "[[]]", "[[]]", "[[]]"}, 1)
	hold(t, known{"the last", u, "[[] [] [] [1 2]]", "[[] [] [1 2] []]", "[[] [] [{1 0} {2 0}] []]"}, 2)
}
