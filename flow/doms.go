package flow

import (
	"slices"

	"gantry/api"
)

// dominators: an immediate dominator is the nearest one above, in the walk's tree as far as it has become that of dominators already, that is come to no later than the semidominator. (No shape of blocks takes long that way, as it would if dominators were guessed again and again until they fit.)
func dominators(blocks []api.Block) []int {
	w := newWalk(blocks)
	semi := w.semis(blocks)
	above := slices.Clone(w.parent)
	doms := slices.Repeat([]int{none}, len(blocks))
	for i := 1; i < len(above); i++ {
		for above[i] > semi[i] {
			above[i] = above[above[i]]
		}
		doms[w.reached.members[i]] = w.reached.members[above[i]]
	}
	return doms
}

// semis tells of each place in the walk the least one from which a way comes to it by greater ones alone (its semidominator).
func (w *walk) semis(blocks []api.Block) []int {
	semi := make([]int, len(w.parent))
	up, low := slices.Clone(w.parent), make([]int, len(w.parent))
	// least tells the least semi of n and of those above it that are greater than known; whose semi is not known yet stands for itself. Ways up grow short when they are gone.
	var least func(n, known int) int
	least = func(n, known int) int {
		if n <= known {
			return n
		}
		if up[n] > known {
			low[n] = min(low[n], least(up[n], known))
			up[n] = up[up[n]]
		}
		return low[n]
	}
	for i := len(semi) - 1; i > 0; i-- {
		semi[i] = i
		for _, p := range blocks[w.reached.members[i]].Preds {
			semi[i] = min(semi[i], least(w.reached.places[p], i))
		}
		low[i] = semi[i]
	}
	return semi
}

// tree is that of dominators: blocks in a row, in which all that a block dominates stand directly behind it.
type tree struct {
	first []int // of each block its number in the row
	end   []int // of each block the number of the first behind it that it does not dominate
}

func newTree(doms []int) tree {
	below := make([][]int, len(doms))
	for b, d := range doms {
		if d != none {
			below[d] = append(below[d], b)
		}
	}
	t := tree{first: make([]int, len(doms)), end: make([]int, len(doms))}
	count := 0
	var visit func(b int)
	visit = func(b int) {
		t.first[b] = count
		count++
		for _, x := range below[b] {
			visit(x)
		}
		t.end[b] = count
	}
	visit(0)
	return t
}

// dominates tells whether each way from block 0 to b goes through a (as each way to a does).
func (t tree) dominates(a, b int) bool {
	return t.first[a] <= t.first[b] && t.first[b] < t.end[a]
}
