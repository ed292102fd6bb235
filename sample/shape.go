package sample

import (
	"slices"

	"gantry/api"
)

// shape tells blocks that are right as far as Kinds, Preds and Succs go; those that are not reached are holes.
func shape(t *Turns) []api.Block {
	l := make([]api.Block, 1+t.Next(9))
	for b := range l {
		l[b].Kind = Pick(t, []int{api.BlockPlain, api.BlockPlain, api.BlockIf, api.BlockIf, api.BlockIf, api.BlockRet, api.BlockPanic})
		if len(l) == 1 {
			l[b].Kind = Pick(t, []int{api.BlockRet, api.BlockRet, api.BlockPanic})
		}
		for range exits(l[b].Kind) {
			l[b].Succs = append(l[b].Succs, next(t, b, len(l)))
		}
	}
	reached := reach(l, -1)
	for b := range l {
		if !reached[b] {
			l[b] = api.Block{}
		}
	}
	for b, x := range l {
		for _, s := range x.Succs {
			l[s].Preds = append(l[s].Preds, b)
		}
	}
	for b, x := range l {
		l[b].Preds = apply(x.Preds, t.Shuffled(len(x.Preds)))
	}
	return l
}

func exits(kind int) int {
	switch kind {
	case api.BlockPlain:
		return 1
	case api.BlockIf:
		return 2
	}
	return 0
}

// next tells a block to go on with, more often than not one behind b, so that most runs end.
func next(t *Turns, b, count int) int {
	if b+1 < count && t.Next(4) > 0 {
		return b + 1 + t.Next(min(3, count-b-1))
	}
	return 1 + t.Next(count-1)
}

// apply tells what stands at those places of l.
func apply(l, places []int) []int {
	var to []int
	for _, p := range places {
		to = append(to, l[p])
	}
	return to
}

// reach tells which blocks are come to from block 0 without going through the block without.
func reach(l []api.Block, without int) []bool {
	seen := make([]bool, len(l))
	var visit func(b int)
	visit = func(b int) {
		if seen[b] || b == without {
			return
		}
		seen[b] = true
		for _, s := range l[b].Succs {
			visit(s)
		}
	}
	visit(0)
	return seen
}

// dominators tells of each block those through which each way to it goes, itself too, the nearest ones last.
func dominators(l []api.Block) [][]int {
	all := make([][]int, len(l))
	for a := range l {
		seen := reach(l, a)
		for b := range l {
			if l[b].Kind != api.BlockNone && !seen[b] && l[a].Kind != api.BlockNone {
				all[b] = append(all[b], a)
			}
		}
	}
	for b := range all {
		slices.SortFunc(all[b], func(x, y int) int { return len(all[x]) - len(all[y]) })
	}
	return all
}
