package ssa

import (
	"slices"

	"gantry/api"
)

// walk goes through the blocks that block 0 reaches, deep ahead of wide.
type walk struct {
	blocks []api.Block
	order  []int // blocks, in the order in which they are come to
	rank   []int // of each block its number in order; none, if it is not come to
	parent []int // of each number in order that of the block from which it is come to
}

func newWalk(blocks []api.Block) *walk {
	w := &walk{blocks: blocks, rank: slices.Repeat([]int{none}, len(blocks))}
	w.visit(0, none)
	return w
}

func (w *walk) visit(b, parent int) {
	own := len(w.order)
	w.rank[b] = own
	w.order, w.parent = append(w.order, b), append(w.parent, parent)
	for _, s := range w.blocks[b].Succs {
		if w.rank[s] == none {
			w.visit(s, own)
		}
	}
}

// semis tells of each number in order the least one from which a way comes to it by greater ones alone (its semidominator).
func (w *walk) semis() []int {
	semi := make([]int, len(w.order))
	f := forest{up: slices.Clone(w.parent), low: make([]int, len(w.order))}
	for i := len(semi) - 1; i > 0; i-- {
		semi[i] = i
		for _, p := range w.blocks[w.order[i]].Preds {
			semi[i] = min(semi[i], f.least(w.rank[p], i))
		}
		f.low[i] = semi[i]
	}
	return semi
}

// forest is the walk's tree as far as semis are known: of the greater numbers. Its ways up grow short when they are gone, so that no shape of blocks takes long.
type forest struct {
	up  []int
	low []int // the least semi from here to ahead of up
}

// least tells the least semi of n and of those above it that are greater than known; a number whose semi is not known yet stands for itself.
func (f forest) least(n, known int) int {
	if n <= known {
		return n
	}
	if up := f.up[n]; up > known {
		f.low[n] = min(f.low[n], f.least(up, known))
		f.up[n] = f.up[up]
	}
	return f.low[n]
}
