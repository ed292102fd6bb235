package live

import (
	"slices"
	"testing"

	"gantry/api"
	"gantry/ssa"
)

// grid tells blocks with these Succs, and so many values in block 0, behind the flag of all branches, that the last block uses one behind the other.
func grid(succs [][]int, count int) api.Unit {
	c := api.Code{Values: values{begin, flag}, Blocks: make([]api.Block, len(succs))}
	last := len(succs) - 1
	for b, l := range succs {
		x := &c.Blocks[b]
		x.Kind, x.Succs = [...]int{api.BlockRet, api.BlockPlain, api.BlockIf}[len(l)], l
		x.Args = [...][]int{list(0), nil, list(1)}[len(l)]
		for _, s := range l {
			c.Blocks[s].Preds = append(c.Blocks[s].Preds, b)
		}
	}
	c.Blocks[0].List = list(0, 1)
	for range count {
		lay(&c, 0, num)
	}
	for n := range count {
		lay(&c, last, neg(2+n))
	}
	return api.Unit{Codes: []api.Code{c}}
}

// row tells Succs of so many blocks in a row.
func row(count int) [][]int {
	succs := make([][]int, count)
	for b := range count - 1 {
		succs[b] = list(b + 1)
	}
	return succs
}

// TestRow: P14.1, P14.2: MaxBlocks blocks in a row, and values that are needed in all of them.
func TestRow(t *testing.T) {
	const count = 500
	u := grid(row(api.MaxBlocks), count)
	ins, e := Ins(u, 0)
	if e != api.OK || len(ins) != api.MaxBlocks || len(ins[0]) != 0 {
		t.Fatalf("Ins: %d", e)
	}
	outs, e := Outs(u, 0)
	if e != api.OK || len(outs) != api.MaxBlocks || len(outs[api.MaxBlocks-1]) != 0 {
		t.Fatalf("Outs: %d", e)
	}
	far, e := Far(u, 0)
	if e != api.OK || len(far) != api.MaxBlocks || len(far[api.MaxBlocks-1]) != 0 {
		t.Fatalf("Far: %d", e)
	}
	for b := range api.MaxBlocks - 1 {
		if len(ins[b+1]) != count || !slices.Equal(ins[b+1], outs[b]) || len(far[b]) != count {
			t.Fatalf("%d: %d, %d, %d", b, len(ins[b+1]), len(outs[b]), len(far[b]))
		}
		for i, v := range outs[b] {
			if want := (api.Next{Value: v, Far: api.MaxBlocks - 2 - b + i}); v != 2+i || far[b][i] != want {
				t.Fatalf("%d: %d, %v", b, v, far[b][i])
			}
		}
	}
}

// TestValues: P14.1, P14.2: MaxValues values, half of them in one block, half of them in another, one behind, that uses them.
func TestValues(t *testing.T) {
	const count = (api.MaxValues - 2) / 2
	u := grid(row(3), count)
	if e := ssa.Check(u); e != api.OK || len(u.Codes[0].Values) != api.MaxValues {
		t.Fatalf("%d", e)
	}
	far, e := Far(u, 0)
	if e != api.OK || len(far[0]) != count || far[0][count-1] != (api.Next{Value: count + 1, Far: count}) || far[1][count-1] != (api.Next{Value: count + 1, Far: count - 1}) {
		t.Errorf("%d", e)
	}
	u.Codes[0].Values = append(u.Codes[0].Values, api.Value{})
	refused(t, "one more", u, 0, api.ErrSSAForm)
}

// TestLongWay: P14.2: a way that goes through all values there can be: the distance is that of all blocks in a row.
func TestLongWay(t *testing.T) {
	u := grid(row(api.MaxBlocks), 0)
	c := &u.Codes[0]
	v := lay(c, 0, num)
	for b := 1; len(c.Values) < api.MaxValues-1; b = b%(api.MaxBlocks-1) + 1 {
		lay(c, b, num)
	}
	c.Results = list(api.KindI64)
	c.Blocks[api.MaxBlocks-1].Args = list(v, 0)
	far, e := Far(u, 0)
	// Ahead of block 0's end there are three values; each other block but the last one takes one step more than it has values.
	if want := len(c.Values) - 3 + api.MaxBlocks - 2; e != api.OK || len(far[0]) != 1 || far[0][0] != (api.Next{Value: v, Far: want}) {
		t.Errorf("%d: %v, not %d", e, far[0], want)
	}
}

// TestLongRound: P14.2: a block that is its own next one, has nearly all values there can be, and uses a value behind them all.
func TestLongRound(t *testing.T) {
	u := grid([][]int{{1}, {1, 2}, nil}, 0)
	c := &u.Codes[0]
	v := lay(c, 0, num)
	for len(c.Values) < api.MaxValues-1 {
		lay(c, 1, num)
	}
	lay(c, 1, neg(v))
	far, e := Far(u, 0)
	want := api.Next{Value: v, Far: len(c.Blocks[1].List) - 1}
	if e != api.OK || len(far[0]) != 2 || far[0][1] != want || len(far[1]) != 2 || far[1][1] != want {
		t.Errorf("%d: %v, not %v", e, far, want)
	}
}

// entered tells Succs of MaxBlocks blocks of shapes that take long, if distances are guessed until they fit.
func entered() [][][]int {
	const last, half = api.MaxBlocks - 1, api.MaxBlocks / 2
	crossed, ladder := make([][]int, api.MaxBlocks), make([][]int, api.MaxBlocks)
	for b := range last {
		crossed[b] = list(b+1, max(1, last-b))
		ladder[b] = list(max(1, (b+half)%last), b+1)
		if b >= half {
			ladder[b][1] = max(half, b-1)
		}
	}
	ladder[half-1] = list(last-1, last)
	return [][][]int{crossed, ladder}
}

// TestEntered: P14.1, P14.2: such shapes: each block needs all values, and is one step, or none, farther than its nearest next one.
func TestEntered(t *testing.T) {
	const count = 200
	for _, succs := range entered() {
		u := grid(succs, count)
		ins, e := Ins(u, 0)
		if e != api.OK {
			t.Fatalf("Ins: %d", e)
		}
		far, e := Far(u, 0)
		if e != api.OK {
			t.Fatalf("Far: %d", e)
		}
		for b, l := range succs[:len(succs)-1] {
			// The flag of all branches is needed too, ahead of the others.
			if len(far[b]) != count+1 || b > 0 && len(ins[b]) != count+1 {
				t.Fatalf("%d: %d, %d", b, len(far[b]), len(ins[b]))
			}
			for i, x := range far[b][1:] {
				least := 1 << 30
				for _, s := range l {
					if s == len(succs)-1 {
						least = min(least, i)
					} else {
						least = min(least, 1+len(u.Codes[0].Blocks[s].List)+far[s][i+1].Far)
					}
				}
				if x != (api.Next{Value: 2 + i, Far: least}) {
					t.Fatalf("%d: %v, not %d", b, x, least)
				}
			}
		}
	}
}

// TestMerged: P14.1, P14.2: thousands of ways into one block, and thousands of OpPhis there.
func TestMerged(t *testing.T) {
	const last, phis = api.MaxBlocks - 1, 1500
	succs := make([][]int, api.MaxBlocks)
	for b := range last {
		succs[b] = list(b+1, last)
	}
	u := grid(succs, 2)
	c := &u.Codes[0]
	args := slices.Repeat(list(2), len(c.Blocks[last].Preds))
	args[len(args)-1] = 3
	for range phis {
		lay(c, last, phi(args...))
	}
	far, e := Far(u, 0)
	if e != api.OK {
		t.Fatalf("%d", e)
	}
	// Way 3 leads in from the last but one block alone; elsewhere 3 is needed by the use behind the OpPhis.
	for b, l := range far[:last] {
		two, three := api.Next{Value: 2}, api.Next{Value: 3, Far: min(phis+1, last-1-b)}
		if len(l) < 2 || l[len(l)-2] != two || l[len(l)-1] != three {
			t.Fatalf("%d: %v", b, l)
		}
	}
}
