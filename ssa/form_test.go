package ssa

import (
	"math"
	"slices"
	"testing"

	"gantry/api"
)

// holes appends n values, n blocks, that are none.
func holes(c api.Code, values, blocks int) api.Code {
	c.Values = append(c.Values, make([]api.Value, values)...)
	c.Blocks = append(c.Blocks, make([]api.Block, blocks)...)
	return c
}

// row is a Code of so many blocks one behind the other, with so many values of KindBool in the first one.
func row(blocks, values int) api.Code {
	c := api.Code{Values: []api.Value{value(api.OpInit, api.KindMem, 0)}, Blocks: make([]api.Block, blocks)}
	for n := range values {
		c.Values = append(c.Values, value(api.OpConst, api.KindBool, int64(n%2)))
	}
	for n := range c.Values {
		c.Blocks[0].List = append(c.Blocks[0].List, n)
	}
	for b := range c.Blocks {
		c.Blocks[b].Kind = api.BlockPlain
		if b > 0 {
			c.Blocks[b].Preds = list(b - 1)
		}
		c.Blocks[b].Succs = list(b + 1)
	}
	end := &c.Blocks[blocks-1]
	end.Kind, end.Succs, end.Args = api.BlockRet, nil, list(0)
	return c
}

// TestUnits: P12.1: how many Codes there are, and bytes of Data.
func TestUnits(t *testing.T) {
	told(t, "no Code", api.Unit{}, api.ErrSSAForm)
	told(t, "no Code, data", api.Unit{Data: []byte{1}}, api.ErrSSAForm)
	told(t, "an empty Code", unit(api.Code{}), api.ErrSSAForm)
	most := slices.Repeat([]api.Code{three()}, api.MaxFuncs)
	told(t, "MaxFuncs Codes", unit(most...), api.OK)
	told(t, "one more", unit(append(most, three())...), api.ErrSSAForm)
	told(t, "many more", unit(slices.Repeat(most, 100)...), api.ErrSSAForm)
	told(t, "MaxCode bytes", api.Unit{Codes: most, Data: make([]byte, api.MaxCode)}, api.OK)
	told(t, "one more", api.Unit{Codes: most, Data: make([]byte, api.MaxCode+1)}, api.ErrSSAForm)
}

// TestLimits: P12.1: values, blocks, holes among them, as many as there may be, and one more.
func TestLimits(t *testing.T) {
	told(t, "MaxValues values", unit(row(1, api.MaxValues-1)), api.OK)
	told(t, "one more", unit(row(1, api.MaxValues)), api.ErrSSAForm)
	told(t, "MaxValues values, holes among them", unit(holes(row(1, 7), api.MaxValues-8, 0)), api.OK)
	told(t, "a hole more", unit(holes(row(1, 7), api.MaxValues-7, 0)), api.ErrSSAForm)
	told(t, "MaxBlocks blocks", unit(row(api.MaxBlocks, 1)), api.OK)
	told(t, "one more", unit(row(api.MaxBlocks+1, 1)), api.ErrSSAForm)
	told(t, "MaxBlocks blocks, holes among them", unit(holes(row(3, 1), 0, api.MaxBlocks-3)), api.OK)
	told(t, "a hole more", unit(holes(row(3, 1), 0, api.MaxBlocks-2)), api.ErrSSAForm)
	for _, c := range []struct {
		blocks, holes int
		want          api.Errno
	}{{api.MaxBlocks, 0, api.OK}, {api.MaxBlocks + 1, 0, api.ErrSSAForm}, {1, api.MaxBlocks - 1, api.OK}, {1, api.MaxBlocks, api.ErrSSAForm}} {
		if e := Flow(holes(row(c.blocks, 0), 0, c.holes)); e != c.want {
			t.Errorf("Flow of %d blocks, %d holes: %d", c.blocks, c.holes, e)
		}
	}
	var many []api.Code
	for range api.MaxFuncs {
		many = append(many, row(api.MaxBlocks, api.MaxValues-1))
	}
	told(t, "as much as there may be", unit(many...), api.OK)
}

// handed is a Code with these Params and Results, and a value of each kind for the results: the number k is of the kind k.
func handed(params, results []int) api.Code {
	c := api.Code{Params: params, Results: results, Values: []api.Value{value(api.OpInit, api.KindMem, 0)}}
	for k := api.KindBool; k <= api.KindPtr; k++ {
		c.Values = append(c.Values, value(api.OpConst, k, 0))
	}
	end := api.Block{Kind: api.BlockRet}
	for n := range c.Values {
		end.List = append(end.List, n)
	}
	for _, k := range results {
		end.Args = append(end.Args, max(0, min(k, api.KindPtr)))
	}
	end.Args = append(end.Args, 0)
	c.Blocks = []api.Block{end}
	return c
}

// TestHanded: P12.1: Params and Results: kinds of words alone, as many as there may be, and one more.
func TestHanded(t *testing.T) {
	const most = api.MaxParams * api.MaxWords
	for k := -1; k <= api.KindMem+1; k++ {
		want := api.OK
		if k < api.KindBool || k > api.KindPtr {
			want = api.ErrSSAForm
		}
		told(t, "Params", unit(handed(list(k), nil)), want)
		told(t, "Results", unit(handed(nil, list(k))), want)
		told(t, "the last of Params", unit(handed(append(slices.Repeat(list(api.KindI8), most-1), k), nil)), want)
		told(t, "the last of Results", unit(handed(nil, append(slices.Repeat(list(api.KindI8), most-1), k))), want)
		told(t, "one more of Params", unit(handed(append(slices.Repeat(list(api.KindI8), most), k), nil)), api.ErrSSAForm)
		told(t, "one more of Results", unit(handed(nil, append(slices.Repeat(list(api.KindI8), most), k))), api.ErrSSAForm)
	}
	all := slices.Repeat(list(api.KindPtr), most)
	told(t, "both", unit(handed(all, all)), api.OK)
}

// calls is a Code that calls the Code 1 with so many Args of KindPtr.
func calls(args int) api.Code {
	c := three()
	c.Values = append(c.Values, value(api.OpConst, api.KindPtr, 0), value(api.OpCall, api.KindMem, 1, append(slices.Repeat(list(2), args), 0)...))
	c.Blocks[0].List, c.Blocks[0].Args = list(0, 1, 2, 3), list(1, 3)
	return c
}

// TestCalled: P12.1: as many Args as the called one's Params, and one; of the first Code that has an error, whatever a called one is.
func TestCalled(t *testing.T) {
	const most = api.MaxParams * api.MaxWords
	for _, n := range []int{0, 1, 2, most - 1, most, most + 1} {
		params := slices.Repeat(list(api.KindPtr), n)
		want := api.OK
		if n > most {
			want = api.ErrSSAForm // the called one's own
		}
		told(t, "as many", unit(calls(n), handed(params, nil)), want)
		told(t, "one more", unit(calls(n+1), handed(params, nil)), api.ErrSSAForm)
		if n > 0 {
			told(t, "one fewer", unit(calls(n-1), handed(params, nil)), api.ErrSSAForm)
		}
	}
	for _, n := range []int64{-1, 2, math.MinInt64, math.MaxInt64} {
		c := calls(0)
		c.Values[3].N = n
		told(t, "no Code", unit(c, handed(nil, nil)), api.ErrSSAForm)
	}
	bare := calls(0)
	bare.Values[3].Args = nil
	told(t, "no memory", unit(bare, handed(nil, nil)), api.ErrSSAForm)
	told(t, "a wrong kind of a Code that is wrong itself", unit(calls(1), handed(list(99), nil)), api.ErrSSAType)
}

// TestHoles: P12.1: in a hole nothing else is set, and nothing speaks of it; an empty list is as none.
func TestHoles(t *testing.T) {
	anew := func() api.Code { return holes(looped(), 1, 1) } // value 10, block 4
	hole := func(v api.Value) func(c *api.Code) { return func(c *api.Code) { c.Values[10] = v } }
	none := func(b api.Block) func(c *api.Code) { return func(c *api.Code) { c.Blocks[4] = b } }
	changed(t, anew, []change{
		{"empty Args", hole(api.Value{Args: list()}), api.OK},
		{"Kind", hole(api.Value{Kind: api.KindBool}), api.ErrSSAForm},
		{"Args", hole(api.Value{Args: list(0)}), api.ErrSSAForm},
		{"N", hole(api.Value{N: 1}), api.ErrSSAForm},
		{"M", hole(api.Value{M: -1}), api.ErrSSAForm},
		{"in a List", func(c *api.Code) { c.Blocks[0].List = append(c.Blocks[0].List, 10) }, api.ErrSSAForm},
		{"among a value's Args", func(c *api.Code) { c.Values[9].Args = list(10, 1) }, api.ErrSSAForm},
		{"among an OpPhi's Args", func(c *api.Code) { c.Values[4].Args = list(2, 10) }, api.ErrSSAForm},
		{"among a block's Args", func(c *api.Code) { c.Blocks[3].Args = list(10, 5) }, api.ErrSSAForm},
		{"a block's empty lists", none(api.Block{Args: list(), Preds: list(), Succs: list(), List: list()}), api.OK},
		{"a block's N", none(api.Block{N: 1}), api.ErrSSAForm},
		{"a block's Args", none(api.Block{Args: list(0)}), api.ErrSSAForm},
		{"a block's Preds", none(api.Block{Preds: list(0)}), api.ErrSSAForm},
		{"a block's Succs", none(api.Block{Succs: list(3)}), api.ErrSSAForm},
		{"a block's List", func(c *api.Code) { c.Blocks[3].List, c.Blocks[4].List = nil, list(9) }, api.ErrSSAForm},
		{"among Preds", func(c *api.Code) { c.Blocks[3].Preds = list(4) }, api.ErrSSAForm},
		{"among Succs", func(c *api.Code) { c.Blocks[1].Succs = list(2, 4) }, api.ErrSSAForm},
	})
}

// TestHolesAhead: P12.1: holes ahead of all that is none, and between.
func TestHolesAhead(t *testing.T) {
	c := api.Code{Results: list(api.KindI64), Values: []api.Value{{}, value(api.OpInit, api.KindMem, 0), {}, value(api.OpConst, api.KindI64, 3), {}}, Blocks: []api.Block{
		{Kind: api.BlockPlain, Succs: list(3), List: list(1)}, {}, {}, {Kind: api.BlockRet, Args: list(3, 1), Preds: list(0), List: list(3)}, {},
	}}
	told(t, "holes", unit(c), api.OK)
	told(t, "holes behind", unit(holes(c, 3, 3)), api.OK)
}

// TestNumbers: P12.1: Ops, Kinds, numbers of values and blocks, those that are none's.
func TestNumbers(t *testing.T) {
	for _, n := range []int{-1, 10, 11, math.MinInt, math.MaxInt} {
		changed(t, looped, []change{
			{"a value's Args", func(c *api.Code) { c.Values[9].Args[1] = n }, api.ErrSSAForm},
			{"an OpPhi's Args", func(c *api.Code) { c.Values[5].Args[1] = n }, api.ErrSSAForm},
			{"a block's Args", func(c *api.Code) { c.Blocks[3].Args[1] = n }, api.ErrSSAForm},
			{"a List", func(c *api.Code) { c.Blocks[3].List = append(c.Blocks[3].List, n) }, api.ErrSSAForm},
		})
	}
	for _, n := range []int{-1, 4, 5, math.MinInt, math.MaxInt} {
		changed(t, looped, []change{
			{"Preds", func(c *api.Code) { c.Blocks[1].Preds[1] = n }, api.ErrSSAForm},
			{"Succs", func(c *api.Code) { c.Blocks[1].Succs[1] = n }, api.ErrSSAForm},
		})
	}
	for _, n := range []int{-1, api.OpAddr + 1, math.MinInt, math.MaxInt} {
		changed(t, looped, []change{
			{"an Op", func(c *api.Code) { c.Values[9].Op = n }, api.ErrSSAForm},
			{"an Op without Args", func(c *api.Code) { c.Values[3] = api.Value{Op: n} }, api.ErrSSAForm},
		})
	}
	for _, n := range []int{-1, api.BlockPanic + 1, math.MinInt, math.MaxInt} {
		changed(t, looped, []change{
			{"a Kind", func(c *api.Code) { c.Blocks[3].Kind = n }, api.ErrSSAForm},
			{"a Kind of nothing else", func(c *api.Code) { c.Blocks = append(c.Blocks, api.Block{Kind: n}) }, api.ErrSSAForm},
		})
	}
}

// TestLists: P12.1: each value once in one List, OpPhis ahead, none in block 0's.
func TestLists(t *testing.T) {
	changed(t, looped, []change{
		{"in none", func(c *api.Code) { c.Blocks[0].List = list(0, 1, 2) }, api.ErrSSAForm},
		{"in none, and not used", func(c *api.Code) { c.Values = append(c.Values, value(api.OpConst, api.KindI8, 1)) }, api.ErrSSAForm},
		{"twice in one", func(c *api.Code) { c.Blocks[0].List = list(0, 1, 2, 3, 3) }, api.ErrSSAForm},
		{"in two", func(c *api.Code) { c.Blocks[3].List = list(9, 3) }, api.ErrSSAForm},
		{"an OpPhi behind another", func(c *api.Code) { c.Blocks[1].List = list(4, 6, 5) }, api.ErrSSAForm},
		{"all OpPhis behind another", func(c *api.Code) { c.Blocks[1].List = list(6, 4, 5) }, api.ErrSSAForm},
		{"OpPhis in another order", func(c *api.Code) { c.Blocks[1].List = list(5, 4, 6) }, api.OK},
		{"an OpPhi in block 0", func(c *api.Code) {
			c.Values = append(c.Values, value(api.OpPhi, api.KindI64, 0))
			c.Blocks[0].List = list(10, 0, 1, 2, 3)
		}, api.ErrSSAForm},
		{"an OpPhi at the end of block 0", func(c *api.Code) {
			c.Values = append(c.Values, value(api.OpPhi, api.KindMem, 0))
			c.Blocks[0].List = list(0, 1, 2, 3, 10)
		}, api.ErrSSAForm},
	})
}

// TestEnds: P12.1: a block's N and how many Args it has.
func TestEnds(t *testing.T) {
	u := whole()
	for b, right := range list(1, 0, 1, 2, 1) {
		for n := range 5 {
			u := whole()
			u.Codes[0].Blocks[b].Args = append(u.Codes[0].Blocks[b].Args, 19, 19, 19, 19)[:n]
			if e := Check(u); (e == api.ErrSSAForm) != (n != right) {
				t.Errorf("block %d, %d Args: %d", b, n, e)
			}
		}
		for _, n := range []int64{math.MinInt64, -1, 0, 1, 2, math.MaxInt32, math.MaxInt32 + 1, math.MaxInt64} {
			u.Codes[0].Blocks[b].N = n
			want := api.ErrSSAForm
			if b == 4 && n > 0 && n <= 1<<31-1 || b != 4 && n == 0 {
				want = api.OK
			}
			told(t, "a block's N", u, want)
		}
		u.Codes[0].Blocks[b].N = int64(b / 4)
	}
}

// TestPhis: P12.1: as many Args as Preds, also where Preds are wrong.
func TestPhis(t *testing.T) {
	changed(t, looped, []change{
		{"fewer", func(c *api.Code) { c.Values[4].Args = list(2) }, api.ErrSSAForm},
		{"more", func(c *api.Code) { c.Values[4].Args = list(2, 7, 7) }, api.ErrSSAForm},
		{"none", func(c *api.Code) { c.Values[4].Args = nil }, api.ErrSSAForm},
		{"Preds are more", func(c *api.Code) { c.Blocks[1].Preds = list(0, 2, 2) }, api.ErrSSAForm},
		{"both are more", func(c *api.Code) {
			c.Blocks[1].Preds, c.Values[4].Args, c.Values[5].Args = list(0, 2, 2), list(2, 7, 7), list(0, 8, 8)
		}, api.ErrSSAFlow},
	})
}
