package ssa

import "slices"

// tree is that of dominators.
type tree struct {
	order []int // blocks, each one's immediate dominator ahead of it
	above []int // of each block its immediate dominator; none of block 0
	first []int // of each block its number in a row in which all that it dominates stand directly behind it
	size  []int // of each block how many it dominates, itself too
}

// newTree: an immediate dominator is the nearest one above, in the walk's tree as far as it is known already, that is not greater than the semidominator.
func newTree(w *walk) tree {
	count := len(w.blocks)
	t := tree{order: w.order, above: make([]int, count), first: make([]int, count), size: make([]int, count)}
	above, semi := slices.Clone(w.parent), w.semis()
	for i := 1; i < len(above); i++ {
		for above[i] > semi[i] {
			above[i] = above[above[i]]
		}
		t.above[w.order[i]] = w.order[above[i]]
	}
	t.above[0] = none
	t.lay()
	return t
}

// lay gives each block a row of numbers within that of the one above it.
func (t tree) lay() {
	for i := len(t.order) - 1; i >= 0; i-- {
		b := t.order[i]
		t.size[b]++
		if b != 0 {
			t.size[t.above[b]] += t.size[b]
		}
	}
	free := make([]int, len(t.first))
	for _, b := range t.order {
		if b != 0 {
			up := t.above[b]
			t.first[b] = free[up]
			free[up] += t.size[b]
		}
		free[b] = t.first[b] + 1
	}
}

// dominates tells whether each way from block 0 to b goes through a (as each way to a does).
func (t tree) dominates(a, b int) bool {
	return t.first[a] <= t.first[b] && t.first[b] < t.first[a]+t.size[a]
}
