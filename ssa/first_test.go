package ssa

import (
	"slices"
	"testing"

	"gantry/api"
)

// faults are changes of looped, each of which has its error alone, of parts that are apart, so that any of them go together; in the order in which they are told.
func faults() []change {
	return []change{
		{"form", func(c *api.Code) { c.Values[9].M = 1 }, api.ErrSSAForm},
		{"flow", func(c *api.Code) { c.Blocks[3].Preds = list(1, 2) }, api.ErrSSAFlow},
		{"type", func(c *api.Code) { c.Values[3].Kind = api.KindMem }, api.ErrSSAType},
		{"order", func(c *api.Code) { c.Values[4].Args[0] = 9 }, api.ErrSSAOrder},
		{"memory", func(c *api.Code) { c.Values[5].Args[1] = 5 }, api.ErrSSAMem},
	}
}

// some makes of looped's faults those of the set.
func some(set int) (c api.Code, want api.Errno) {
	c = looped()
	for i, x := range slices.Backward(faults()) {
		if set>>i&1 > 0 {
			x.make(&c)
			want = x.want
		}
	}
	return c, want
}

// TestFirst: P12.1: of several errors in one Code the first listed; of two Codes that of the first that has one.
func TestFirst(t *testing.T) {
	changed(t, looped, faults())
	for set := range 32 {
		c, want := some(set)
		told(t, "one Code", unit(c), want)
		for other := range 32 {
			d, next := some(other)
			if want != api.OK {
				next = want
			}
			told(t, "two Codes", unit(c, d), next)
			told(t, "three Codes", unit(three(), c, d), next)
		}
		told(t, "Data ahead of all", api.Unit{Codes: []api.Code{c}, Data: make([]byte, api.MaxCode+1)}, api.ErrSSAForm)
		told(t, "the number of Codes ahead of all", unit(slices.Repeat([]api.Code{c}, api.MaxFuncs+1)...), api.ErrSSAForm)
	}
}

// TestFirstOfFlow: P12.1: Flow(c) of Codes that have several errors: those of blocks' Kinds, Preds and Succs alone.
func TestFirstOfFlow(t *testing.T) {
	for set := range 32 {
		c, _ := some(set)
		want := api.OK
		if set>>1&1 > 0 {
			want = api.ErrSSAFlow
		}
		if e := Flow(c); e != want {
			t.Errorf("%d: %d, not %d", set, e, want)
		}
		c.Blocks[1].Kind = api.BlockPanic + 1
		if e := Flow(c); e != api.ErrSSAForm {
			t.Errorf("%d: %d", set, e)
		}
	}
}

// TestFirstInPart: P12.1: what is told first stands last: in later values, in later blocks.
func TestFirstInPart(t *testing.T) {
	changed(t, looped, []change{
		{"a kind, and a number behind it", func(c *api.Code) { c.Values[1].Kind, c.Values[9].Args[0] = api.KindU8, 99 }, api.ErrSSAForm},
		{"a kind, and a block's number", func(c *api.Code) { c.Values[1].Kind, c.Blocks[3].Args[0] = api.KindU8, -1 }, api.ErrSSAForm},
		{"a kind, and Succs", func(c *api.Code) { c.Values[1].Kind, c.Blocks[3].Succs = api.KindU8, list(1) }, api.ErrSSAFlow},
		{"an order, and a block's kind", func(c *api.Code) { c.Blocks[2].List, c.Blocks[3].Args[0] = list(8, 7), 6 }, api.ErrSSAType},
		{"a memory, and an order behind it", func(c *api.Code) { c.Values[8].Args[1], c.Blocks[3].Args[0] = 0, 7 }, api.ErrSSAOrder},
		{"a way, and a hole that is set", func(c *api.Code) { c.Blocks[1].Preds[0] = 2; *c = holes(*c, 0, 1); c.Blocks[4].N = 1 }, api.ErrSSAForm},
		{"no OpInit, and an order", func(c *api.Code) {
			c.Values[0] = value(api.OpConst, api.KindI8, 0)
			c.Blocks[2].List = list(8, 7)
		}, api.ErrSSAType},
	})
}
