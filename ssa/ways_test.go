package ssa

import (
	"testing"

	"gantry/api"
)

// ended tells a Code without values of blocks with these Succs; Preds are found, rising. What has no Succs is a BlockRet.
func ended(succs ...[]int) api.Code {
	c := api.Code{Blocks: make([]api.Block, len(succs))}
	for b, l := range succs {
		c.Blocks[b].Kind, c.Blocks[b].Succs = [...]int{api.BlockRet, api.BlockPlain, api.BlockIf}[len(l)], l
		for _, s := range l {
			c.Blocks[s].Preds = append(c.Blocks[s].Preds, b)
		}
	}
	return c
}

// full gives a Code of blocks alone what it needs to be right: memory, a bool.
func full(c api.Code) api.Code {
	c.Values = []api.Value{value(api.OpInit, api.KindMem, 0), value(api.OpConst, api.KindBool, 1)}
	c.Blocks[0].List = list(0, 1)
	for b := range c.Blocks {
		x := &c.Blocks[b]
		switch x.Kind {
		case api.BlockIf:
			x.Args = list(1)
		case api.BlockRet:
			x.Args = list(0)
		case api.BlockPanic:
			x.Args, x.N = list(0), 1
		}
	}
	return c
}

// flows holds what Flow tells of blocks, and what Check does, where nothing but the flow can be wrong.
func flows(t *testing.T, what string, c api.Code, want api.Errno) {
	t.Helper()
	if e := Flow(c); e != want {
		t.Errorf("Flow, %s: %d, not %d", what, e, want)
	}
	if c.Blocks[0].Kind != api.BlockNone {
		told(t, what, unit(full(c)), want)
	}
}

// TestShapes: P12.1: blocks that are right: choices, loops, those that are their own next one, ways that are two.
func TestShapes(t *testing.T) {
	flows(t, "one", ended(nil), api.OK)
	flows(t, "a row", ended(list(1), list(2), nil), api.OK)
	flows(t, "a choice", ended(list(1, 2), list(3), list(3), nil), api.OK)
	flows(t, "a loop", ended(list(1), list(2, 3), list(1), nil), api.OK)
	flows(t, "its own next one", ended(list(1), list(1)), api.OK)
	flows(t, "its own next one, or another", ended(list(1), list(1, 2), nil), api.OK)
	flows(t, "its own next one, twice", ended(list(1), list(1, 1)), api.OK)
	flows(t, "two ways to one", ended(list(1, 1), nil), api.OK)
	flows(t, "two ways to one, and one more", ended(list(1, 2), list(2, 2), nil), api.OK)
	flows(t, "a loop of two heads", ended(list(1, 2), list(2), list(1, 3), nil), api.OK)
	flows(t, "two ends", ended(list(1, 2), nil, nil), api.OK)
	c := ended(list(1, 2), nil, nil)
	c.Blocks[2].Kind = api.BlockPanic
	flows(t, "a panic", c, api.OK)
}

// TestPreds: P12.1: Preds in any order, each as often as it is one.
func TestPreds(t *testing.T) {
	for _, x := range []struct {
		preds []int
		want  api.Errno
	}{
		{list(0, 1, 1), api.OK}, {list(1, 0, 1), api.OK}, {list(1, 1, 0), api.OK},
		{list(0, 1), api.ErrSSAFlow}, {list(0, 0, 1), api.ErrSSAFlow}, {list(1, 1, 1), api.ErrSSAFlow}, {list(0, 1, 1, 1), api.ErrSSAFlow},
		{list(0, 0, 1, 1), api.ErrSSAFlow}, {list(0, 1, 2), api.ErrSSAFlow}, {list(0, 1, 1, 2), api.ErrSSAFlow}, {nil, api.ErrSSAFlow},
	} {
		c := ended(list(1, 2), list(2, 2), nil)
		c.Blocks[2].Preds = x.preds
		flows(t, "Preds", c, x.want)
	}
}

// TestWrongWays: P12.1: ErrSSAFlow: each thing that flow asks, wrong alone.
func TestWrongWays(t *testing.T) {
	anew := func() api.Code { return ended(list(1), list(2, 3), list(1), nil) }
	flows(t, "unchanged", anew(), api.OK)
	for _, x := range []struct {
		what string
		make func(b []api.Block)
	}{
		{"block 0 is come back to", func(b []api.Block) { b[2].Succs, b[0].Preds, b[1].Preds = list(0), list(2), list(0) }},
		{"block 0 has one of Preds that is none", func(b []api.Block) { b[0].Preds = list(1) }},
		{"a BlockPlain without Succs", func(b []api.Block) { b[2].Succs, b[1].Preds = nil, list(0) }},
		{"a BlockPlain with two", func(b []api.Block) { b[2].Succs, b[3].Preds = list(1, 3), list(1, 2) }},
		{"a BlockIf without Succs", func(b []api.Block) { b[1].Succs, b[2].Preds, b[3].Preds = nil, nil, nil }},
		{"a BlockIf with one", func(b []api.Block) { b[1].Succs, b[3].Preds = list(2), nil }},
		{"a BlockIf with three", func(b []api.Block) { b[1].Succs, b[3].Preds = list(2, 3, 3), list(1, 1) }},
		{"a BlockRet with one", func(b []api.Block) { b[3].Succs, b[1].Preds = list(1), list(0, 2, 3) }},
		{"a BlockPanic with one", func(b []api.Block) { b[3].Kind, b[3].Succs, b[1].Preds = api.BlockPanic, list(1), list(0, 2, 3) }},
		{"Preds without one", func(b []api.Block) { b[1].Preds = list(0) }},
		{"Preds with another", func(b []api.Block) { b[3].Preds = list(1, 2) }},
		{"Preds of another", func(b []api.Block) { b[3].Preds = list(2) }},
		{"Succs of another", func(b []api.Block) { b[2].Succs = list(3) }},
	} {
		c := anew()
		x.make(c.Blocks)
		flows(t, x.what, c, api.ErrSSAFlow)
	}
}

// TestReached: P12.1: each block is reached from block 0; block 0 is no hole.
func TestReached(t *testing.T) {
	flows(t, "an end that nothing reaches", ended(nil, nil), api.ErrSSAFlow)
	flows(t, "one that goes on, that nothing reaches", ended(list(2), list(2), nil), api.ErrSSAFlow)
	flows(t, "one that reaches itself", ended(nil, list(1)), api.ErrSSAFlow)
	flows(t, "two that reach each other", ended(nil, list(2), list(1)), api.ErrSSAFlow)
	flows(t, "a hole", holes(ended(list(1), nil), 0, 1), api.OK)
	flows(t, "a hole and one that nothing reaches", ended(nil, nil, list(1)), api.ErrSSAFlow)
	flows(t, "block 0 alone, a hole", api.Code{Blocks: make([]api.Block, 1)}, api.ErrSSAFlow)
	flows(t, "block 0 a hole", api.Code{Blocks: []api.Block{{}, {Kind: api.BlockRet}}}, api.ErrSSAFlow)
	flows(t, "block 0 a hole, a loop", api.Code{Blocks: []api.Block{{}, {Kind: api.BlockPlain, Preds: list(1), Succs: list(1)}}}, api.ErrSSAFlow)
	told(t, "block 0 a hole", unit(api.Code{Blocks: make([]api.Block, 1)}), api.ErrSSAFlow)
	told(t, "all are holes", unit(holes(api.Code{}, 3, 3)), api.ErrSSAFlow)
}

// TestFlowForm: P12.1: Flow(c): ErrSSAForm by Kind, Preds and Succs of blocks, ahead of ErrSSAFlow.
func TestFlowForm(t *testing.T) {
	for i, l := range [][]api.Block{
		nil,
		{},
		{{Kind: -1}},
		{{Kind: api.BlockPanic + 1}},
		{{Kind: api.BlockRet}, {Kind: 77}},
		{{Kind: api.BlockPlain, Succs: list(1)}},
		{{Kind: api.BlockPlain, Succs: list(-1)}},
		{{Kind: api.BlockRet, Preds: list(1)}},
		{{Kind: api.BlockRet, Preds: list(-1)}},
		{{Kind: api.BlockPlain, Succs: list(1)}, {}},
		{{Kind: api.BlockRet, Preds: list(1)}, {}},
		{{Kind: api.BlockRet}, {Preds: list(0)}},
		{{Kind: api.BlockRet}, {Succs: list(0)}},
		{{Kind: api.BlockIf}, {Succs: list(0)}},
		{{}, {Kind: api.BlockPlain, Succs: list(2)}},
	} {
		if e := Flow(api.Code{Blocks: l}); e != api.ErrSSAForm {
			t.Errorf("%d: %d", i, e)
		}
	}
}

// TestFlowAlone: P12.1: Flow(c): what blocks alone say, whatever stands in values, and in what else blocks have.
func TestFlowAlone(t *testing.T) {
	right, wrong := ended(list(1), list(2, 3), list(1), nil, nil), ended(list(1), list(2, 3), list(1), nil)
	right.Blocks[4] = api.Block{}
	wrong.Blocks[1].Preds = list(0)
	none := api.Code{Blocks: []api.Block{{Kind: 9}}}
	for _, x := range []struct {
		c    api.Code
		want api.Errno
	}{{right, api.OK}, {wrong, api.ErrSSAFlow}, {none, api.ErrSSAForm}} {
		c := x.c
		c.Params, c.Results = list(-1, 99), make([]int, 1000)
		c.Values = make([]api.Value, api.MaxValues+1)
		for i := range c.Values {
			c.Values[i] = api.Value{Op: i - 7, Kind: i, N: -1, M: -1, Args: list(-1, i)}
		}
		for b := range c.Blocks {
			c.Blocks[b].N, c.Blocks[b].Args, c.Blocks[b].List = -1, list(-1, 7, 7), list(0, 0, 1<<40)
		}
		if e := Flow(c); e != x.want {
			t.Errorf("%d, not %d", e, x.want)
		}
	}
}
