package flow

import (
	"slices"
	"testing"

	"gantry/api"
)

// wide tells MaxBlocks blocks in a row; each is a BlockIf, if back tells another one for it to go to.
func wide(back func(b int) int) api.Code {
	succs := make([][]int, api.MaxBlocks)
	for b := range api.MaxBlocks - 1 {
		succs[b] = list(b + 1)
		if to := back(b); to > 0 {
			succs[b] = list(b+1, to)
		}
	}
	return graph(succs...)
}

// inRow holds orders and dominators of blocks that stand in a row, whatever ways go back.
func inRow(t *testing.T, c api.Code) {
	t.Helper()
	post, e := Post(c)
	slices.Reverse(post)
	if e != api.OK || !slices.Equal(post, identity(api.MaxBlocks)) {
		t.Errorf("Post: %d", e)
	}
	doms, e := Doms(c)
	for b, d := range doms {
		if d != b-1 {
			t.Fatalf("Doms: %d of %d", d, b)
		}
	}
	if e != api.OK || len(doms) != api.MaxBlocks {
		t.Errorf("Doms: %d", e)
	}
}

// TestRow: P13.1, P13.2: MaxBlocks blocks in a row.
func TestRow(t *testing.T) {
	c := wide(func(int) int { return none })
	inRow(t, c)
	if l, e := Loops(c); e != api.OK || len(l) != 0 {
		t.Errorf("%d: %v", e, l)
	}
	refused(t, "one more", api.Code{Blocks: append(c.Blocks, api.Block{})}, api.ErrSSAForm)
}

// TestRound: P13.2: MaxBlocks blocks, all that can be with ways back to one.
func TestRound(t *testing.T) {
	c := wide(func(b int) int { return min(b, 1) })
	inRow(t, c)
	l, e := Loops(c)
	if e != api.OK || len(l) != 1 || l[0].Head != 1 || l[0].Depth != 1 || !slices.Equal(l[0].Body, identity(api.MaxBlocks - 1)[1:]) {
		t.Errorf("%d: %d loops", e, len(l))
	}
	c = wide(func(b int) int { return b })
	inRow(t, c)
	l, e = Loops(c)
	if e != api.OK || len(l) != api.MaxBlocks-2 {
		t.Fatalf("%d: %d loops", e, len(l))
	}
	for n, x := range l {
		if !sameLoops([]api.Loop{x}, []api.Loop{loop(n+1, -1, 1, n+1)}) {
			t.Fatalf("%d: %v", n, x)
		}
	}
}

// TestDeep: P13.2: as many loops within one another as MaxBlocks blocks can have.
func TestDeep(t *testing.T) {
	const last = api.MaxBlocks - 1
	c := wide(func(b int) int {
		if b >= api.MaxBlocks/2 {
			return last - b
		}
		return none
	})
	inRow(t, c)
	l, e := Loops(c)
	if e != api.OK || len(l) != api.MaxBlocks/2-1 {
		t.Fatalf("%d: %d loops", e, len(l))
	}
	for n, x := range l {
		if x.Head != n+1 || x.Outer != n-1 || x.Depth != n+1 || !slices.Equal(x.Body, identity(last - n)[n+1:]) {
			t.Fatalf("%d: head %d, outer %d, depth %d, %d blocks", n, x.Head, x.Outer, x.Depth, len(x.Body))
		}
	}
}

// crossed tells MaxBlocks blocks that are entered everywhere: each goes on with the next one, and with that as far from the other end.
func crossed() api.Code {
	const last = api.MaxBlocks - 1
	succs := make([][]int, api.MaxBlocks)
	for b := range succs {
		succs[b] = list(min(b+1, last), max(1, last-b))
	}
	succs[0] = list(1, api.MaxBlocks/2)
	return graph(succs...)
}

// ladder tells MaxBlocks blocks: a row down, and a row up, each block of which may go down or up from where it stands; block 0 enters both.
func ladder() api.Code {
	const half = api.MaxBlocks / 2
	succs := make([][]int, api.MaxBlocks)
	for b := range succs {
		succs[b] = list(max(1, (b+half)%api.MaxBlocks), b+1)
		if b >= half {
			succs[b][1] = max(half, b-1)
		}
	}
	succs[0], succs[half-1] = list(1, api.MaxBlocks-1), list(api.MaxBlocks-1)
	return graph(succs...)
}

// TestEntered: P13.1, P13.2: MaxBlocks blocks of shapes that take long, if dominators are guessed until they fit; some of them against the model.
func TestEntered(t *testing.T) {
	for _, c := range []api.Code{crossed(), ladder()} {
		post, e := Post(c)
		if e != api.OK || !slices.Equal(post, modelPost(c)) {
			t.Fatalf("Post: %d", e)
		}
		doms, e := Doms(c)
		if e != api.OK || len(doms) != api.MaxBlocks {
			t.Fatalf("Doms: %d", e)
		}
		above := newTree(doms)
		for a := range api.MaxBlocks {
			if a > 5 && a%31 > 0 {
				continue
			}
			for b, seen := range modelReach(c, 0, a) {
				if seen == above.dominates(a, b) {
					t.Fatalf("%d and %d: %t", a, b, seen)
				}
			}
		}
		if _, e := Loops(c); e != api.OK {
			t.Errorf("Loops: %d", e)
		}
	}
}
