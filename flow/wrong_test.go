package flow

import (
	"slices"
	"testing"

	"gantry/api"
	"gantry/sample"
	"gantry/ssa"
)

// refused holds that each call tells the error, and nothing beside it.
func refused(t *testing.T, what string, c api.Code, want api.Errno) {
	t.Helper()
	if l, e := Post(c); e != want || l != nil {
		t.Errorf("%s: Post: %d, %d, not %d", what, l, e, want)
	}
	if l, e := Doms(c); e != want || l != nil {
		t.Errorf("%s: Doms: %d, %d, not %d", what, l, e, want)
	}
	if l, e := Loops(c); e != want || l != nil {
		t.Errorf("%s: Loops: %v, %d, not %d", what, l, e, want)
	}
}

// looped is the chapter's example, with a hole behind it.
func looped() api.Code { return graph(list(1), list(2, 3), list(1), nil, hole) }

// TestWrong: P13.1, P13.2: ssa.Flow's errors, ahead of all else.
func TestWrong(t *testing.T) {
	refused(t, "nothing", api.Code{}, api.ErrSSAForm)
	refused(t, "too many blocks", graph(slices.Repeat([][]int{hole}, api.MaxBlocks+1)...), api.ErrSSAForm)
	refused(t, "holes alone", graph(hole, hole), api.ErrSSAFlow)
	for _, x := range []struct {
		what string
		make func(l []api.Block)
		want api.Errno
	}{
		{"a kind below all", func(l []api.Block) { l[3].Kind = -1 }, api.ErrSSAForm},
		{"a kind above all", func(l []api.Block) { l[3].Kind = api.BlockPanic + 1 }, api.ErrSSAForm},
		{"a hole with Succs", func(l []api.Block) { l[4].Succs = list(1) }, api.ErrSSAForm},
		{"a hole with Preds", func(l []api.Block) { l[4].Preds = list(1) }, api.ErrSSAForm},
		{"Succs below all", func(l []api.Block) { l[2].Succs[0] = -1 }, api.ErrSSAForm},
		{"Succs above all", func(l []api.Block) { l[2].Succs[0] = 5 }, api.ErrSSAForm},
		{"Succs a hole", func(l []api.Block) { l[2].Succs[0] = 4 }, api.ErrSSAForm},
		{"Preds below all", func(l []api.Block) { l[2].Preds[0] = -1 }, api.ErrSSAForm},
		{"Preds above all", func(l []api.Block) { l[2].Preds[0] = 1 << 40 }, api.ErrSSAForm},
		{"Preds a hole", func(l []api.Block) { l[2].Preds[0] = 4 }, api.ErrSSAForm},
		{"no block 0", func(l []api.Block) { l[0], l[1].Preds = api.Block{}, list(2) }, api.ErrSSAFlow},
		{"a BlockPlain with two Succs", func(l []api.Block) { l[1].Kind = api.BlockPlain }, api.ErrSSAFlow},
		{"a BlockIf with one", func(l []api.Block) { l[2].Kind = api.BlockIf }, api.ErrSSAFlow},
		{"a BlockPanic with one", func(l []api.Block) { l[2].Kind = api.BlockPanic }, api.ErrSSAFlow},
		{"Preds too few", func(l []api.Block) { l[1].Preds = list(0) }, api.ErrSSAFlow},
		{"Preds too many", func(l []api.Block) { l[1].Preds = list(0, 2, 2) }, api.ErrSSAFlow},
		{"other Preds", func(l []api.Block) { l[1].Preds = list(0, 3) }, api.ErrSSAFlow},
		{"block 0 with Preds", func(l []api.Block) { l[2].Succs, l[1].Preds, l[0].Preds = list(0), list(0), list(2) }, api.ErrSSAFlow},
		{"one that is not reached", func(l []api.Block) { l[4] = api.Block{Kind: api.BlockRet} }, api.ErrSSAFlow},
		{"one that itself alone reaches", func(l []api.Block) { l[4] = api.Block{Kind: api.BlockPlain, Preds: list(4), Succs: list(4)} }, api.ErrSSAFlow},
		{"flow, and form behind it", func(l []api.Block) { l[1].Preds, l[3].Kind = list(0), -1 }, api.ErrSSAForm},
	} {
		c := looped()
		x.make(c.Blocks)
		refused(t, x.what, c, x.want)
	}
}

// bend makes one small change that may or may not leave the blocks right.
func bend(t *sample.Turns, c *api.Code) {
	b := &c.Blocks[t.Next(len(c.Blocks))]
	number := t.Next(len(c.Blocks)+2) - 1
	switch t.Next(5) {
	case 0:
		b.Kind = t.Next(api.BlockPanic+3) - 1
	case 1:
		b.Succs = append(slices.Clone(b.Succs), number)
	case 2:
		b.Preds = append(slices.Clone(b.Preds), number)
	case 3:
		b.Succs = slices.Clone(b.Succs)
		for i := range b.Succs {
			b.Succs[i] = number
		}
	case 4:
		*b = api.Block{}
	}
}

// TestBent: P13.1, P13.2: blocks with a small change: ssa.Flow's error, or what the model tells.
func TestBent(t *testing.T) {
	turns := sample.Turns(9)
	found := map[api.Errno]int{}
	for range 5000 {
		c := tangle(&turns, 10)
		bend(&turns, &c)
		e := ssa.Flow(c)
		if found[e]++; e == api.OK {
			agree(t, c)
		} else {
			refused(t, "bent", c, e)
		}
	}
	for _, e := range []api.Errno{api.OK, api.ErrSSAForm, api.ErrSSAFlow} {
		if found[e] < 100 {
			t.Errorf("%d was told %d times: too few", e, found[e])
		}
	}
}
