package flow

import (
	"fmt"
	"slices"
	"testing"

	"gantry/api"
)

func list(l ...int) []int { return l }

// hole stands among Succs for a block that is none.
var hole = list(none)

// graph tells a Code without values of blocks with these Succs; Preds are found, rising. What has no Succs is a BlockRet.
func graph(succs ...[]int) api.Code {
	c := api.Code{Blocks: make([]api.Block, len(succs))}
	for b, l := range succs {
		if slices.Equal(l, hole) {
			continue
		}
		c.Blocks[b].Kind, c.Blocks[b].Succs = [...]int{api.BlockRet, api.BlockPlain, api.BlockIf}[len(l)], l
		for _, s := range l {
			c.Blocks[s].Preds = append(c.Blocks[s].Preds, b)
		}
	}
	return c
}

func loop(head, outer, depth int, body ...int) api.Loop {
	return api.Loop{Head: head, Outer: outer, Depth: depth, Body: body}
}

// shape is blocks, and what is told of them.
type shape struct {
	name       string
	succs      [][]int
	post, doms []int
	loops      []api.Loop
}

// hold asks all calls of one shape.
func hold(t *testing.T, x shape) {
	t.Helper()
	c := graph(x.succs...)
	if post, e := Post(c); e != api.OK || !slices.Equal(post, x.post) {
		t.Errorf("%s: Post: %d, %d, not %d", x.name, post, e, x.post)
	}
	if doms, e := Doms(c); e != api.OK || !slices.Equal(doms, x.doms) {
		t.Errorf("%s: Doms: %d, %d, not %d", x.name, doms, e, x.doms)
	}
	if loops, e := Loops(c); e != api.OK || !sameLoops(loops, x.loops) {
		t.Errorf("%s: Loops: %v, %d, not %v", x.name, loops, e, x.loops)
	}
}

func sameLoops(x, y []api.Loop) bool { return fmt.Sprint(x) == fmt.Sprint(y) }

// TestOrdinary: P13.1, P13.2: rows, choices, loops.
func TestOrdinary(t *testing.T) {
	for _, x := range []shape{
		{"the chapter's example", [][]int{{1}, {2, 3}, {1}, nil}, list(2, 3, 1, 0), list(-1, 0, 1, 1), []api.Loop{loop(1, -1, 1, 1, 2)}},
		{"a row", [][]int{{1}, {2}, {3}, nil}, list(3, 2, 1, 0), list(-1, 0, 1, 2), nil},
		{"a row, not in the order of numbers", [][]int{{3}, nil, {1}, {2}}, list(1, 2, 3, 0), list(-1, 2, 3, 0), nil},
		{"a way that parts and comes together again", [][]int{{1, 2}, {3}, {3}, nil}, list(3, 1, 2, 0), list(-1, 0, 0, 0), nil},
		{"the same, the other one first", [][]int{{2, 1}, {3}, {3}, nil}, list(3, 2, 1, 0), list(-1, 0, 0, 0), nil},
		{"one side of which is short", [][]int{{1, 2}, {2}, nil}, list(2, 1, 0), list(-1, 0, 0), nil},
		{"one side of which is short, the short one first", [][]int{{2, 1}, {2}, nil}, list(2, 1, 0), list(-1, 0, 0), nil},
		{"ways that part and end", [][]int{{1, 2}, nil, {3, 4}, nil, nil}, list(1, 3, 4, 2, 0), list(-1, 0, 0, 2, 2), nil},
		{"one choice within another", [][]int{{1, 2}, {3, 4}, {6}, {5}, {5}, {6}, nil}, list(6, 5, 3, 4, 1, 2, 0), list(-1, 0, 0, 1, 1, 1, 0), nil},
		{"a loop that asks at its end", [][]int{{1}, {2}, {1, 3}, nil}, list(3, 2, 1, 0), list(-1, 0, 1, 2), []api.Loop{loop(1, -1, 1, 1, 2)}},
		{"a loop without end", [][]int{{1}, {2}, {1}}, list(2, 1, 0), list(-1, 0, 1), []api.Loop{loop(1, -1, 1, 1, 2)}},
		{"a choice within a loop", [][]int{{1}, {2, 3}, {4}, {4}, {1, 5}, nil}, list(5, 4, 2, 3, 1, 0), list(-1, 0, 1, 1, 1, 4), []api.Loop{loop(1, -1, 1, 1, 2, 3, 4)}},
		{"one loop behind another", [][]int{{1}, {2, 3}, {1}, {4, 5}, {3}, nil}, list(2, 4, 5, 3, 1, 0), list(-1, 0, 1, 1, 3, 3), []api.Loop{loop(1, -1, 1, 1, 2), loop(3, -1, 1, 3, 4)}},
		{"two loops with one head", [][]int{{1}, {2, 3}, {1}, {1, 4}, nil}, list(2, 4, 3, 1, 0), list(-1, 0, 1, 1, 3), []api.Loop{loop(1, -1, 1, 1, 2, 3)}},
		{"a loop that is left from its midst", [][]int{{1}, {2}, {3, 5}, {4}, {1, 5}, nil}, list(5, 4, 3, 2, 1, 0), list(-1, 0, 1, 2, 3, 2), []api.Loop{loop(1, -1, 1, 1, 2, 3, 4)}},
		{"a loop whose head has a high number", [][]int{{5}, {5}, hole, nil, {1}, {4, 3}}, list(1, 4, 3, 5, 0), list(-1, 4, -1, 5, 5, 0), []api.Loop{loop(5, -1, 1, 1, 4, 5)}},
	} {
		hold(t, x)
	}
}

// TestNested: P13.2: loops within loops, the one around, how deep.
func TestNested(t *testing.T) {
	for _, x := range []shape{
		{"one within another", [][]int{{1}, {2}, {3, 4}, {2}, {1, 5}, nil}, list(3, 5, 4, 2, 1, 0), list(-1, 0, 1, 2, 2, 4),
			[]api.Loop{loop(1, -1, 1, 1, 2, 3, 4), loop(2, 0, 2, 2, 3)}},
		{"three, the innermost with the lowest head", [][]int{{3}, {1, 4}, {1}, {2}, {2, 5}, {3, 6}, nil}, list(6, 5, 4, 1, 2, 3, 0), list(-1, 2, 3, 0, 1, 4, 5),
			[]api.Loop{loop(1, 1, 3, 1), loop(2, 2, 2, 1, 2, 4), loop(3, -1, 1, 1, 2, 3, 4, 5)}},
		{"two side by side in a third, as long as each other", [][]int{{1}, {2, 6}, {3}, {2, 4}, {5}, {4, 1}, nil}, list(5, 4, 3, 2, 6, 1, 0), list(-1, 0, 1, 2, 3, 4, 1),
			[]api.Loop{loop(1, -1, 1, 1, 2, 3, 4, 5), loop(2, 0, 2, 2, 3), loop(4, 0, 2, 4, 5)}},
		{"an inner one that goes on with the outer one from its midst", [][]int{{1}, {2}, {3, 1}, {2, 4}, nil}, list(4, 3, 2, 1, 0), list(-1, 0, 1, 2, 3),
			[]api.Loop{loop(1, -1, 1, 1, 2, 3), loop(2, 0, 2, 2, 3)}},
		{"an inner one that leaves both", [][]int{{1}, {2}, {3, 5}, {2, 4}, {1}, nil}, list(4, 3, 5, 2, 1, 0), list(-1, 0, 1, 2, 3, 2),
			[]api.Loop{loop(1, -1, 1, 1, 2, 3, 4), loop(2, 0, 2, 2, 3)}},
		{"a head that is within two", [][]int{{1}, {2}, {3}, {3, 4}, {2, 5}, {1, 6}, nil}, list(6, 5, 4, 3, 2, 1, 0), list(-1, 0, 1, 2, 3, 4, 5),
			[]api.Loop{loop(1, -1, 1, 1, 2, 3, 4, 5), loop(2, 0, 2, 2, 3, 4), loop(3, 1, 3, 3)}},
		{"one behind a loop, on a way out of it", [][]int{{1}, {1, 2}, {2, 3}, nil}, list(3, 2, 1, 0), list(-1, 0, 1, 2),
			[]api.Loop{loop(1, -1, 1, 1), loop(2, -1, 1, 2)}},
	} {
		hold(t, x)
	}
}

// TestEdges: P13.1, P13.2: what the chapter says of blocks that are alone, their own next ones, or none.
func TestEdges(t *testing.T) {
	for _, x := range []shape{
		{"one block alone", [][]int{nil}, list(0), list(-1), nil},
		{"one block, and holes", [][]int{nil, hole, hole}, list(0), list(-1, -1, -1), nil},
		{"holes among blocks", [][]int{{4}, hole, nil, hole, {5, 2}, {4}, hole}, list(5, 2, 4, 0), list(-1, -1, 4, -1, 0, 4, -1), []api.Loop{loop(4, -1, 1, 4, 5)}},
		{"its own next one", [][]int{{1}, {1}}, list(1, 0), list(-1, 0), []api.Loop{loop(1, -1, 1, 1)}},
		{"its own next one, or another", [][]int{{1}, {2, 1}, nil}, list(2, 1, 0), list(-1, 0, 1), []api.Loop{loop(1, -1, 1, 1)}},
		{"its own next one, twice", [][]int{{1}, {1, 1}}, list(1, 0), list(-1, 0), []api.Loop{loop(1, -1, 1, 1)}},
		{"its own next one, and a loop's head", [][]int{{1}, {1, 2}, {1}}, list(2, 1, 0), list(-1, 0, 1), []api.Loop{loop(1, -1, 1, 1, 2)}},
		{"its own next one, within a loop", [][]int{{1}, {2, 3}, {2, 1}, nil}, list(2, 3, 1, 0), list(-1, 0, 1, 1), []api.Loop{loop(1, -1, 1, 1, 2), loop(2, 0, 2, 2)}},
		{"another one twice", [][]int{{1, 1}, nil}, list(1, 0), list(-1, 0), nil},
		{"another one twice, in a row", [][]int{{1, 1}, {2, 2}, nil}, list(2, 1, 0), list(-1, 0, 1), nil},
		{"a head twice", [][]int{{1}, {2}, {1, 1}}, list(2, 1, 0), list(-1, 0, 1), []api.Loop{loop(1, -1, 1, 1, 2)}},
		{"another one twice, within a loop", [][]int{{1}, {2, 2}, {1, 3}, nil}, list(3, 2, 1, 0), list(-1, 0, 1, 2), []api.Loop{loop(1, -1, 1, 1, 2)}},
	} {
		hold(t, x)
	}
}

// TestTwoEntries: P13.1, P13.2: what is entered at two places has no head.
func TestTwoEntries(t *testing.T) {
	for _, x := range []shape{
		{"two blocks", [][]int{{1, 2}, {2}, {1, 3}, nil}, list(3, 2, 1, 0), list(-1, 0, 0, 2), nil},
		{"two blocks, without end", [][]int{{2, 1}, {2}, {1}}, list(1, 2, 0), list(-1, 0, 0), nil},
		{"within a loop", [][]int{{1}, {2, 3}, {3}, {2, 4}, {1, 5}, nil}, list(5, 4, 3, 2, 1, 0), list(-1, 0, 1, 1, 3, 4), []api.Loop{loop(1, -1, 1, 1, 2, 3, 4)}},
		{"with a loop within", [][]int{{1, 2}, {3}, {1}, {3, 2}}, list(2, 3, 1, 0), list(-1, 0, 0, 1), []api.Loop{loop(3, -1, 1, 3)}},
		{"on a way back to a head", [][]int{{1}, {2, 3}, {3, 4}, {2, 1}, nil}, list(3, 4, 2, 1, 0), list(-1, 0, 1, 1, 2), []api.Loop{loop(1, -1, 1, 1, 2, 3)}},
		{"on a way into a head", [][]int{{1, 2}, {2}, {1, 3}, {4, 5}, {3}, nil}, list(4, 5, 3, 2, 1, 0), list(-1, 0, 0, 2, 3, 3), []api.Loop{loop(3, -1, 1, 3, 4)}},
		{"three entries", [][]int{{1, 2}, {3}, {4, 5}, {4}, {5}, {3, 6}, nil}, list(6, 5, 4, 3, 1, 2, 0), list(-1, 0, 0, 0, 0, 0, 5), nil},
	} {
		hold(t, x)
	}
}

// TestAsFew: P13.2: of two loops with as few blocks the one of the lower head is around. No blocks have such loops (TestNeverAsFew), so the list is made by hand.
func TestAsFew(t *testing.T) {
	made := []api.Loop{loop(2, none, 1, 2, 5), loop(3, none, 1, 3, 5), loop(4, none, 1, 4, 5), loop(5, none, 1, 5)}
	nest(made, 6)
	if want := []api.Loop{loop(2, -1, 1, 2, 5), loop(3, -1, 1, 3, 5), loop(4, -1, 1, 4, 5), loop(5, 0, 2, 5)}; !sameLoops(made, want) {
		t.Errorf("%v, not %v", made, want)
	}
	made = []api.Loop{loop(2, none, 1, 2, 3, 5), loop(3, none, 1, 3, 5), loop(4, none, 1, 4, 5), loop(5, none, 1, 5)}
	nest(made, 6)
	if want := []api.Loop{loop(2, -1, 1, 2, 3, 5), loop(3, 0, 2, 3, 5), loop(4, -1, 1, 4, 5), loop(5, 1, 3, 5)}; !sameLoops(made, want) {
		t.Errorf("%v, not %v", made, want)
	}
}
