package ssa

import (
	"testing"
	"time"

	"gantry/api"
	"gantry/edit"
	"gantry/sample"
)

// uses gives a Code of blocks alone a value in the block a, and in the block b one that uses it.
func uses(c api.Code, a, b int) api.Code {
	c = full(c)
	c.Values = append(c.Values, value(api.OpConst, api.KindI8, 5), value(api.OpUn, api.KindI8, api.UnNeg, 2))
	c.Blocks[a].List = append(c.Blocks[a].List, 2)
	c.Blocks[b].List = append(c.Blocks[b].List, 3)
	return c
}

// TestDominates: P12.1: a use in another block: each way from block 0 to it goes through the definition's one.
func TestDominates(t *testing.T) {
	for _, x := range []struct {
		what  string
		succs [][]int
		above []int // of each block its immediate dominator
	}{
		{"a row", [][]int{list(1), list(2), nil}, list(-1, 0, 1)},
		{"a choice", [][]int{list(1, 2), list(3), list(3), nil}, list(-1, 0, 0, 0)},
		{"two ways to one", [][]int{list(1, 1), list(2, 2), nil}, list(-1, 0, 1)},
		{"a loop", [][]int{list(1), list(2, 3), list(1), nil}, list(-1, 0, 1, 1)},
		{"its own next one", [][]int{list(1), list(1, 2), nil}, list(-1, 0, 1)},
		{"a loop of two heads", [][]int{list(1, 2), list(2), list(1, 3), nil}, list(-1, 0, 0, 2)},
		{"a way past", [][]int{list(1), list(2, 4), list(3), list(4), list(5), nil}, list(-1, 0, 1, 2, 1, 4)},
		{"a way back into a row", [][]int{list(1), list(2), list(3, 5), list(4), list(2), nil}, list(-1, 0, 1, 2, 3, 2)},
		{"ways across", [][]int{list(1, 2), list(3, 4), list(4, 5), list(6), list(6), list(7), list(7), nil}, list(-1, 0, 0, 1, 0, 2, 0, 0)},
		{"numbers that fall", [][]int{list(4), nil, list(1), list(2), list(3, 2)}, list(-1, 2, 4, 4, 0)},
	} {
		for a := range x.succs {
			for b := range x.succs {
				want := api.ErrSSAOrder
				for at := b; at >= 0; at = x.above[at] {
					if at == a {
						want = api.OK
					}
				}
				told(t, x.what, unit(uses(ended(x.succs...), a, b)), want)
			}
		}
	}
}

// TestManyShapes: P12.1: many shapes, larger ones too, loops of several heads among them: of each two blocks whether the one is above the other, by a plain search.
func TestManyShapes(t *testing.T) {
	turns := sample.Turns(3)
	for range 400 {
		count := 2 + turns.Next(24)
		succs := make([][]int, count)
		for b := range succs {
			for range turns.Next(3) {
				succs[b] = append(succs[b], 1+turns.Next(count-1))
			}
			if b+1 < count && len(succs[b]) == 0 {
				succs[b] = list(b + 1)
			}
		}
		c := ended(succs...)
		m := model{c: c}
		for b, seen := range m.reach(-1) {
			if !seen {
				succs[b] = nil
			}
		}
		c = full(ended(succs...))
		for b, seen := range m.reach(-1) {
			if !seen {
				c.Blocks[b] = api.Block{}
			}
		}
		for a := range succs {
			without := m.reach(a)
			for b := range succs {
				if c.Blocks[a].Kind == api.BlockNone || c.Blocks[b].Kind == api.BlockNone {
					continue
				}
				d := edit.Copied(unit(c)).Codes[0]
				n := lay(&d, a, value(api.OpConst, api.KindI8, 5))
				lay(&d, b, value(api.OpUn, api.KindI8, api.UnNeg, n))
				want := api.OK
				if without[b] {
					want = api.ErrSSAOrder
				}
				told(t, "two blocks", unit(d), want)
			}
		}
	}
}

// TestPlaces: P12.1: a use in the same block stands behind its definition; none is its own.
func TestPlaces(t *testing.T) {
	changed(t, looped, []change{
		{"directly behind", func(c *api.Code) { c.Blocks[0].List = list(3, 2, 1, 0) }, api.OK},
		{"ahead", func(c *api.Code) { c.Blocks[2].List = list(8, 7) }, api.ErrSSAOrder},
		{"itself", func(c *api.Code) { c.Values[7].Args[0] = 7 }, api.ErrSSAOrder},
		{"its own OpPhi", func(c *api.Code) { c.Values[6].Args[1] = 4 }, api.OK},
		{"in the other side", func(c *api.Code) { c.Values[9].Args[1] = 7 }, api.ErrSSAOrder},
		{"in a block behind", func(c *api.Code) { c.Values[6].Args[1] = 7 }, api.ErrSSAOrder},
		{"memory in a block behind", func(c *api.Code) { c.Values[8].Args[1] = 8 }, api.ErrSSAOrder},
	})
}

// TestEndUses: P12.1: a block's Args are used at its end.
func TestEndUses(t *testing.T) {
	changed(t, looped, []change{
		{"the last of its List", func(c *api.Code) { c.Blocks[3].Args[0] = 9 }, api.OK},
		{"of a block above", func(c *api.Code) { c.Blocks[3].Args[0] = 4 }, api.OK},
		{"of the other side", func(c *api.Code) { c.Blocks[3].Args[0] = 7 }, api.ErrSSAOrder},
		{"memory of the other side", func(c *api.Code) { c.Blocks[3].Args[1] = 8 }, api.ErrSSAOrder},
		{"a bool of a block behind", func(c *api.Code) { c.Blocks[1].List, c.Blocks[2].List = list(4, 5), list(6, 7, 8) }, api.ErrSSAOrder},
	})
}

// TestPhiUses: P12.1: an OpPhi's i-th of Args is used at the end of the i-th of Preds.
func TestPhiUses(t *testing.T) {
	changed(t, looped, []change{
		{"Preds turned round", func(c *api.Code) { c.Blocks[1].Preds = list(2, 0) }, api.ErrSSAOrder},
		{"Preds and Args turned round", func(c *api.Code) {
			c.Blocks[1].Preds, c.Values[4].Args, c.Values[5].Args = list(2, 0), list(7, 2), list(8, 0)
		}, api.OK},
		{"itself, on the way back", func(c *api.Code) { c.Values[4].Args[1] = 4 }, api.OK},
		{"itself, on the way in", func(c *api.Code) { c.Values[4].Args[0] = 4 }, api.ErrSSAOrder},
		{"a value of block 0 on both ways", func(c *api.Code) { c.Values[4].Args[1] = 3 }, api.OK},
		{"a value of its own block, on the way back", func(c *api.Code) {
			c.Values = append(c.Values, value(api.OpUn, api.KindI64, api.UnNeg, 4))
			c.Blocks[1].List, c.Values[4].Args = list(4, 5, 10, 6), list(2, 10)
		}, api.OK},
		{"a value of its own block, on the way in", func(c *api.Code) {
			c.Values = append(c.Values, value(api.OpUn, api.KindI64, api.UnNeg, 4))
			c.Blocks[1].List, c.Values[4].Args = list(4, 5, 10, 6), list(10, 7)
		}, api.ErrSSAOrder},
		{"a value of a block that the way does not come from", func(c *api.Code) { c.Values[4].Args[1] = 9 }, api.ErrSSAOrder},
	})
	// Block 1 goes on with itself or with 2: its OpPhi takes what its own List makes behind it.
	own := full(ended(list(1), list(1, 2), nil))
	own.Values = append(own.Values, value(api.OpPhi, api.KindBool, 0, 1, 3), value(api.OpUn, api.KindBool, api.UnNot, 2))
	own.Blocks[1].List = list(2, 3)
	told(t, "a block that is its own next one", unit(own), api.OK)
	own.Values[2].Args = list(3, 1)
	told(t, "the same, on the way in", unit(own), api.ErrSSAOrder)
	own.Values[2].Args = list(2, 1)
	told(t, "itself, on the way in", unit(own), api.ErrSSAOrder)
	own.Blocks[1].Preds = list(1, 0)
	told(t, "itself, with Preds turned round", unit(own), api.OK)
}

// ladder tells blocks of two rows between which ways go up and down, and back to the one ahead: few are above any other.
func ladder(count int) api.Code {
	succs := make([][]int, count)
	succs[0] = list(1, 2)
	for b := 1; b < count; b++ {
		down, back := min(b+2, count-1), max(1, b-1)
		succs[b] = list(down, back)
	}
	return ended(succs...)
}

// TestLong: P12.1: R1: blocks as many as there may be, in shapes that take a plain search long; each call ends soon.
func TestLong(t *testing.T) {
	begin := time.Now()
	back := make([][]int, api.MaxBlocks)
	out := make([][]int, api.MaxBlocks)
	for b := range back {
		back[b] = list(min(b+1, api.MaxBlocks-1), api.MaxBlocks-1-b+b/(api.MaxBlocks-1))
		out[b] = list(min(b+1, api.MaxBlocks-1), 1+b*7919%(api.MaxBlocks-1))
	}
	last := api.MaxBlocks - 1
	back[last], out[last] = nil, nil
	for _, c := range []api.Code{ladder(api.MaxBlocks), ended(back...), ended(out...)} {
		if e := Flow(c); e != api.OK {
			t.Errorf("Flow: %d", e)
		}
		all := make([]api.Code, api.MaxFuncs)
		for i := range all {
			all[i] = full(c)
		}
		told(t, "long", unit(all...), api.OK)
	}
	if time.Since(begin) > 10*time.Second {
		t.Errorf("it took %v", time.Since(begin))
	}
}
