package ssa

import (
	"testing"

	"gantry/api"
)

func value(op, kind int, n int64, args ...int) api.Value {
	return api.Value{Op: op, Kind: kind, N: n, Args: args}
}

func list(l ...int) []int { return l }

// told holds Check's answer against what is wanted.
func told(t *testing.T, what string, u api.Unit, want api.Errno) {
	t.Helper()
	if e := Check(u); e != want {
		t.Errorf("%s: %d, not %d", what, e, want)
	}
}

func unit(c ...api.Code) api.Unit { return api.Unit{Codes: c} }

// three is the chapter's example: one block that tells 3.
func three() api.Code {
	return api.Code{
		Results: list(api.KindI64),
		Values:  []api.Value{value(api.OpInit, api.KindMem, 0), value(api.OpConst, api.KindI64, 3)},
		Blocks:  []api.Block{{Kind: api.BlockRet, Args: list(1, 0), List: list(0, 1)}},
	}
}

// whole has some of each operation and of each kind of blocks: a choice, a panic, memory, data, a call.
func whole() api.Unit {
	first := api.Code{Params: list(api.KindI64, api.KindBool), Results: list(api.KindI64), Values: []api.Value{
		0:  value(api.OpInit, api.KindMem, 0),
		1:  value(api.OpArg, api.KindI64, 0),
		2:  value(api.OpArg, api.KindBool, 1),
		3:  value(api.OpConst, api.KindU64, 16),
		4:  value(api.OpAlloc, api.KindMem, 0, 3, 0),
		5:  value(api.OpBlock, api.KindPtr, 0, 4),
		6:  value(api.OpStore, api.KindMem, 8, 5, 1, 4),
		7:  value(api.OpLoad, api.KindI64, 8, 5, 6),
		8:  value(api.OpEmit, api.KindMem, 0, 7, 6),
		9:  value(api.OpData, api.KindPtr, 2),
		10: value(api.OpAddr, api.KindPtr, 8, 5),
		11: {Op: api.OpAddr, Kind: api.KindPtr, N: 1, M: 4, Args: list(9, 3)},
		12: value(api.OpLoad, api.KindU8, 0, 11, 8),
		13: value(api.OpConv, api.KindI64, 0, 12),
		14: value(api.OpUn, api.KindI64, api.UnNeg, 13),
		15: value(api.OpBin, api.KindI64, api.BinAdd, 14, 7),
		16: value(api.OpBin, api.KindI64, api.BinShl, 15, 3),
		17: value(api.OpBin, api.KindBool, api.BinLt, 16, 15),
		18: value(api.OpSel, api.KindI64, 0, 17, 15, 16),
		19: value(api.OpCall, api.KindMem, 1, 18, 2, 8),
		20: value(api.OpResult, api.KindI64, 0, 19),
		21: value(api.OpResult, api.KindF64, 1, 19),
		22: value(api.OpEmit, api.KindMem, 0, 21, 19),
		23: value(api.OpPhi, api.KindI64, 0, 20, 15),
		24: value(api.OpPhi, api.KindMem, 0, 22, 19),
	}, Blocks: []api.Block{
		0: {Kind: api.BlockIf, Args: list(2), Succs: list(1, 2), List: list(0, 1, 2, 3, 4, 5, 6, 7, 8, 9, 10, 11, 12, 13, 14, 15, 16, 17, 18, 19, 20, 21)},
		1: {Kind: api.BlockPlain, Preds: list(0), Succs: list(3), List: list(22)},
		2: {Kind: api.BlockIf, Args: list(17), Preds: list(0), Succs: list(3, 4)},
		3: {Kind: api.BlockRet, Args: list(23, 24), Preds: list(1, 2), List: list(23, 24)},
		4: {Kind: api.BlockPanic, N: 7, Args: list(19), Preds: list(2)},
	}}
	return api.Unit{Codes: []api.Code{first, second()}, Data: []byte("texts")}
}

// second is what whole calls.
func second() api.Code {
	return api.Code{Params: list(api.KindI64, api.KindBool), Results: list(api.KindI64, api.KindF64), Values: []api.Value{
		value(api.OpConst, api.KindF64, 1), value(api.OpArg, api.KindI64, 0), value(api.OpInit, api.KindMem, 0),
	}, Blocks: []api.Block{{Kind: api.BlockRet, Args: list(1, 0, 2), List: list(0, 1, 2)}}}
}

// looped: 0 to 1, 1 to 2 or 3, 2 to 1: a loop in which a number goes up, and is told.
func looped() api.Code {
	return api.Code{Params: list(api.KindI64), Results: list(api.KindI64), Values: []api.Value{
		0: value(api.OpInit, api.KindMem, 0),
		1: value(api.OpArg, api.KindI64, 0),
		2: value(api.OpConst, api.KindI64, 0),
		3: value(api.OpConst, api.KindI64, 1),
		4: value(api.OpPhi, api.KindI64, 0, 2, 7),
		5: value(api.OpPhi, api.KindMem, 0, 0, 8),
		6: value(api.OpBin, api.KindBool, api.BinLt, 4, 1),
		7: value(api.OpBin, api.KindI64, api.BinAdd, 4, 3),
		8: value(api.OpEmit, api.KindMem, 0, 7, 5),
		9: value(api.OpBin, api.KindI64, api.BinAdd, 1, 4),
	}, Blocks: []api.Block{
		{Kind: api.BlockPlain, Succs: list(1), List: list(0, 1, 2, 3)},
		{Kind: api.BlockIf, Args: list(6), Preds: list(0, 2), Succs: list(2, 3), List: list(4, 5, 6)},
		{Kind: api.BlockPlain, Preds: list(1), Succs: list(1), List: list(7, 8)},
		{Kind: api.BlockRet, Args: list(9, 5), Preds: list(1), List: list(9)},
	}}
}

// change is one that is made to a Code, and what is told then.
type change struct {
	what string
	make func(c *api.Code)
	want api.Errno
}

// changed holds what is told of Codes that are made anew, changed by each, alone and behind another Code.
func changed(t *testing.T, anew func() api.Code, l []change) {
	t.Helper()
	told(t, "unchanged", unit(anew()), api.OK)
	for _, x := range l {
		c := anew()
		x.make(&c)
		told(t, x.what, unit(c), x.want)
		told(t, x.what+", behind another Code", unit(three(), c), x.want)
	}
}

// TestPrograms: P12.1: ordinary programs: one block, several, a choice, a loop, calls, memory, data; Codes that call themselves and each other.
func TestPrograms(t *testing.T) {
	told(t, "one block", unit(three()), api.OK)
	told(t, "whole", whole(), api.OK)
	told(t, "looped", unit(looped()), api.OK)
	told(t, "several", unit(looped(), three(), looped(), second()), api.OK)
	again := three()
	again.Values = append(again.Values, value(api.OpCall, api.KindMem, 0, 0), value(api.OpResult, api.KindI64, 0, 2))
	again.Blocks[0].Args, again.Blocks[0].List = list(3, 2), list(0, 1, 2, 3)
	told(t, "one that calls itself", unit(again), api.OK)
	again.Values[2].N = 1
	told(t, "two that call each other", unit(again, again), api.OK)
	for i, c := range whole().Codes {
		if e := Flow(c); e != api.OK {
			t.Errorf("Flow of %d: %d", i, e)
		}
	}
}

// TestExamples: P12.1: the chapter's own.
func TestExamples(t *testing.T) {
	changed(t, three, []change{
		{"without OpInit", func(c *api.Code) { c.Values[0] = api.Value{}; c.Blocks[0].List = list(1) }, api.ErrSSAForm},
		{"uses the one behind it", func(c *api.Code) {
			c.Values = append(c.Values, value(api.OpUn, api.KindI64, api.UnNeg, 1))
			c.Blocks[0].List = list(0, 2, 1)
		}, api.ErrSSAOrder},
		{"a load of the memory ahead of a store", func(c *api.Code) {
			c.Values = append(c.Values, value(api.OpConst, api.KindPtr, 0), value(api.OpStore, api.KindMem, 0, 2, 1, 0), value(api.OpLoad, api.KindI8, 0, 2, 0))
			c.Blocks[0] = api.Block{Kind: api.BlockRet, Args: list(1, 3), List: list(0, 1, 2, 3, 4)}
		}, api.ErrSSAMem},
		{"a load of the memory behind a store", func(c *api.Code) {
			c.Values = append(c.Values, value(api.OpConst, api.KindPtr, 0), value(api.OpStore, api.KindMem, 0, 2, 1, 0), value(api.OpLoad, api.KindI8, 0, 2, 3))
			c.Blocks[0] = api.Block{Kind: api.BlockRet, Args: list(1, 3), List: list(0, 1, 2, 3, 4)}
		}, api.OK},
	})
}
