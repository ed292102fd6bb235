package ssa

import (
	"testing"

	"gantry/api"
)

// forked: 0 to 1 or 2, both to 3, which tells; the number 1 is a bool, 2 a pointer.
func forked() api.Code {
	c := full(ended(list(1, 2), list(3), list(3), nil))
	c.Values = append(c.Values, value(api.OpConst, api.KindPtr, 0))
	c.Blocks[0].List = list(0, 1, 2)
	return c
}

// lay puts a value at the end of a block's List.
func lay(c *api.Code, block int, v api.Value) int {
	c.Values = append(c.Values, v)
	c.Blocks[block].List = append(c.Blocks[block].List, len(c.Values)-1)
	return len(c.Values) - 1
}

func emit(mem int) api.Value { return value(api.OpEmit, api.KindMem, 0, 1, mem) }
func load(mem int) api.Value { return value(api.OpLoad, api.KindI8, 0, 2, mem) }

// TestChain: P12.1: in one block each takes the memory that is there; loads do not make one.
func TestChain(t *testing.T) {
	makers := []func(mem int) api.Value{
		emit,
		func(mem int) api.Value { return value(api.OpStore, api.KindMem, 0, 2, 1, mem) },
		func(mem int) api.Value { return value(api.OpAlloc, api.KindMem, 0, 3, mem) },
		func(mem int) api.Value { return value(api.OpCall, api.KindMem, 0, mem) },
	}
	for _, first := range makers {
		for _, next := range makers {
			for _, x := range []struct {
				loads, takes, ends int // 4: the one that the first makes; 0: the one ahead; 6: the last one
				want               api.Errno
			}{{4, 4, 6, api.OK}, {0, 4, 6, api.ErrSSAMem}, {4, 0, 6, api.ErrSSAMem}, {4, 4, 4, api.ErrSSAMem}, {4, 4, 0, api.ErrSSAMem}} {
				c := full(ended(nil))
				lay(&c, 0, value(api.OpConst, api.KindPtr, 0))
				lay(&c, 0, value(api.OpConst, api.KindU64, 0))
				lay(&c, 0, first(0))
				lay(&c, 0, load(x.loads))
				lay(&c, 0, next(x.takes))
				c.Blocks[0].Args = list(x.ends)
				told(t, "a chain", unit(c), x.want)
				c.Blocks[0].Kind, c.Blocks[0].N = api.BlockPanic, 1
				told(t, "a chain that panics", unit(c), x.want)
			}
		}
	}
}

// TestInitAhead: P12.1: OpInit may stand behind values, but ahead of all that use memory.
func TestInitAhead(t *testing.T) {
	c := full(ended(nil))
	c.Blocks[0].List = list(1, 0)
	told(t, "behind a constant", unit(c), api.OK)
	lay(&c, 0, value(api.OpConst, api.KindPtr, 0))
	lay(&c, 0, load(0))
	c.Blocks[0].List = list(1, 2, 0, 3)
	told(t, "ahead of a load", unit(c), api.OK)
	c.Blocks[0].List = list(1, 2, 3, 0)
	told(t, "behind a load", unit(c), api.ErrSSAOrder)
}

// TestThrough: P12.1: a block without an OpPhi of memory has the one at the end of its immediate dominator, where each of Preds brings it.
func TestThrough(t *testing.T) {
	changed(t, forked, []change{
		{"loads on the sides and behind", func(c *api.Code) {
			lay(c, 1, load(0))
			lay(c, 2, load(0))
			lay(c, 3, load(0))
		}, api.OK},
		{"made in block 0", func(c *api.Code) {
			n := lay(c, 0, emit(0))
			lay(c, 1, load(n))
			lay(c, 3, load(n))
			c.Blocks[3].Args = list(n)
		}, api.OK},
		{"made in block 0, the one ahead is taken", func(c *api.Code) {
			n := lay(c, 0, emit(0))
			lay(c, 1, load(0))
			c.Blocks[3].Args = list(n)
		}, api.ErrSSAMem},
		{"made in block 0, the one ahead is told", func(c *api.Code) { lay(c, 0, emit(0)) }, api.ErrSSAMem},
		{"made on one side", func(c *api.Code) { lay(c, 1, emit(0)) }, api.ErrSSAMem},
		{"made on the other side", func(c *api.Code) { lay(c, 2, emit(0)) }, api.ErrSSAMem},
		{"made on both sides", func(c *api.Code) { lay(c, 1, emit(0)); lay(c, 2, emit(0)) }, api.ErrSSAMem},
		{"made behind both", func(c *api.Code) { c.Blocks[3].Args = list(lay(c, 3, emit(0))) }, api.OK},
		{"made on a side that ends", func(c *api.Code) {
			c.Blocks[1] = api.Block{Kind: api.BlockRet, Preds: list(0)}
			c.Blocks[3].Preds = list(2)
			c.Blocks[1].Args = list(lay(c, 1, emit(0)))
		}, api.OK},
		{"made on a side that ends, the one ahead is told there", func(c *api.Code) {
			c.Blocks[1] = api.Block{Kind: api.BlockPanic, N: 1, Args: list(0), Preds: list(0)}
			c.Blocks[3].Preds = list(2)
			lay(c, 1, emit(0))
		}, api.ErrSSAMem},
	})
}

// TestJoin: P12.1: an OpPhi of memory takes those at the ends of Preds, one by one; a block has one at most.
func TestJoin(t *testing.T) {
	// Block 1 makes 3, block 3 has the OpPhi 4 of it and of 0.
	anew := func() api.Code {
		c := forked()
		lay(&c, 1, emit(0))
		lay(&c, 3, value(api.OpPhi, api.KindMem, 0, 3, 0))
		c.Blocks[3].Args = list(4)
		return c
	}
	changed(t, anew, []change{
		{"Preds and Args turned round", func(c *api.Code) { c.Blocks[3].Preds, c.Values[4].Args = list(2, 1), list(0, 3) }, api.OK},
		{"Preds turned round", func(c *api.Code) { c.Blocks[3].Preds = list(2, 1) }, api.ErrSSAOrder},
		{"the one ahead on both ways", func(c *api.Code) { c.Values[4].Args = list(0, 0) }, api.ErrSSAMem},
		{"made on the other side, too", func(c *api.Code) { c.Values[4].Args[1] = lay(c, 2, emit(0)) }, api.OK},
		{"made on the other side, too, but not taken", func(c *api.Code) { lay(c, 2, emit(0)) }, api.ErrSSAMem},
		{"told without the OpPhi", func(c *api.Code) { c.Blocks[3].Args = list(0) }, api.ErrSSAMem},
		{"loaded without the OpPhi", func(c *api.Code) { lay(c, 3, load(0)) }, api.ErrSSAMem},
		{"loaded by it", func(c *api.Code) { lay(c, 3, load(4)) }, api.OK},
		{"an OpPhi of the same on all ways", func(c *api.Code) {
			c.Values[3] = value(api.OpConst, api.KindI8, 0)
			c.Values[4].Args = list(0, 0)
		}, api.OK},
		{"two of them", func(c *api.Code) { lay(c, 3, value(api.OpPhi, api.KindMem, 0, 3, 0)) }, api.ErrSSAMem},
		{"two of them, the last one is taken", func(c *api.Code) {
			c.Blocks[3].Args = list(lay(c, 3, value(api.OpPhi, api.KindMem, 0, 3, 0)))
		}, api.ErrSSAMem},
		{"one behind another OpPhi", func(c *api.Code) {
			n := lay(c, 3, value(api.OpPhi, api.KindBool, 0, 1, 1))
			c.Blocks[3].List = list(n, 4)
		}, api.OK},
		{"one in a block with one of Preds", func(c *api.Code) {
			n := lay(c, 2, value(api.OpPhi, api.KindMem, 0, 0))
			c.Values[4].Args[1] = n
		}, api.OK},
		{"one in a block with one of Preds, which is not taken", func(c *api.Code) { lay(c, 2, value(api.OpPhi, api.KindMem, 0, 0)) }, api.ErrSSAMem},
	})
}

// TestLoopMemory: P12.1: memory on the way back into a loop.
func TestLoopMemory(t *testing.T) {
	changed(t, looped, []change{
		{"the loop takes the one ahead of it", func(c *api.Code) { c.Values[8].Args[1] = 0 }, api.ErrSSAMem},
		{"the one ahead of the loop is told", func(c *api.Code) { c.Blocks[3].Args[1] = 0 }, api.ErrSSAMem},
		{"the way back brings the OpPhi", func(c *api.Code) { c.Values[5].Args[1] = 5 }, api.ErrSSAMem},
		{"nothing is made, and the way back brings the OpPhi", func(c *api.Code) {
			c.Values[5].Args[1], c.Values[8], c.Blocks[2].List = 5, api.Value{}, list(7)
		}, api.OK},
		{"nothing is made, and no OpPhi", func(c *api.Code) {
			c.Values[5], c.Blocks[1].List = api.Value{}, list(4, 6)
			c.Values[8], c.Blocks[2].List = api.Value{}, list(7)
			c.Blocks[3].Args[1] = 0
		}, api.OK},
		{"made in the loop, and no OpPhi", func(c *api.Code) {
			c.Values[5], c.Blocks[1].List = api.Value{}, list(4, 6)
			c.Values[8].Args[1] = 0
			c.Blocks[3].Args[1] = 0
		}, api.ErrSSAMem},
	})
	// Block 1 goes on with itself: the OpPhi takes what its own List makes.
	own := full(ended(list(1), list(1, 2), nil))
	own.Values = append(own.Values, value(api.OpPhi, api.KindMem, 0, 0, 3), emit(2))
	own.Blocks[1].List, own.Blocks[2].Args = list(2, 3), list(3)
	told(t, "a block that is its own next one", unit(own), api.OK)
	own.Values[2].Args[1] = 2
	told(t, "a block that is its own next one, and brings what it had", unit(own), api.ErrSSAMem)
	never := full(ended(list(1), list(1, 1)))
	never.Values = append(never.Values, emit(0))
	never.Blocks[1].List = list(2)
	told(t, "without end, no OpPhi", unit(never), api.ErrSSAMem)
}
