package ssa

import (
	"slices"

	"gantry/api"
	"gantry/fault"
)

// formOfWays asks as much of the form as Kinds, Preds and Succs of blocks say.
func formOfWays(blocks []api.Block) {
	fault.Must(len(blocks) > 0 && len(blocks) <= api.MaxBlocks, api.ErrSSAForm)
	for _, b := range blocks {
		fault.Must(b.Kind >= api.BlockNone && b.Kind <= api.BlockPanic, api.ErrSSAForm)
		fault.Must(b.Kind != api.BlockNone || len(b.Preds)+len(b.Succs) == 0, api.ErrSSAForm)
		fault.Must(areBlocks(blocks, b.Preds) && areBlocks(blocks, b.Succs), api.ErrSSAForm)
	}
}

func areBlocks(blocks []api.Block, l []int) bool {
	return !slices.ContainsFunc(l, func(n int) bool {
		return !isNumberOf(len(blocks), n) || blocks[n].Kind == api.BlockNone
	})
}

// ways asks of the flow, of blocks whose form is right, and tells a walk through all of them.
func ways(blocks []api.Block) *walk {
	fault.Must(blocks[0].Kind != api.BlockNone, api.ErrSSAFlow)
	for _, b := range blocks {
		fault.Must(len(b.Succs) == exits(b.Kind), api.ErrSSAFlow)
	}
	for n, from := range comings(blocks) {
		fault.Must(isSame(from, blocks[n].Preds), api.ErrSSAFlow)
	}
	fault.Must(len(blocks[0].Preds) == 0, api.ErrSSAFlow)
	w := newWalk(blocks)
	for n, b := range blocks {
		fault.Must(b.Kind == api.BlockNone || w.rank[n] != none, api.ErrSSAFlow)
	}
	return w
}

// exits tells how many Succs a block of that kind has.
func exits(kind int) int {
	switch kind {
	case api.BlockPlain:
		return 1
	case api.BlockIf:
		return 2
	}
	return 0
}

// comings tells of each block those that have it among Succs, as often as they have, rising.
func comings(blocks []api.Block) [][]int {
	from := make([][]int, len(blocks))
	for n, b := range blocks {
		for _, s := range b.Succs {
			from[s] = append(from[s], n)
		}
	}
	return from
}

// isSame tells whether l is the rising list in any order. Lengths are asked first, so that no long list is copied in vain.
func isSame(rising, l []int) bool {
	return len(rising) == len(l) && slices.Equal(rising, slices.Sorted(slices.Values(l)))
}
