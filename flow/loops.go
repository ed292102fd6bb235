package flow

import (
	"cmp"
	"slices"

	"gantry/api"
)

func loops(blocks []api.Block) []api.Loop {
	t := newTree(dominators(blocks))
	body := newSet(len(blocks))
	var back func(b int)
	back = func(b int) {
		if body.has(b) {
			return
		}
		body.add(b)
		for _, p := range blocks[b].Preds {
			back(p)
		}
	}
	var list []api.Loop
	for h, b := range blocks {
		again := slices.DeleteFunc(slices.Clone(b.Preds), func(p int) bool { return !t.dominates(h, p) })
		if len(again) == 0 {
			continue
		}
		body.clear()
		body.add(h) // no way back goes through it
		for _, p := range again {
			back(p)
		}
		list = append(list, api.Loop{Head: h, Outer: none, Depth: 1, Body: body.rising()})
	}
	nest(list, len(blocks))
	return list
}

// nest lets small loops take the heads in their Bodies ahead of great ones, of two as small that of the lower head first. Depths go the other way: a loop is smaller than the one around it.
func nest(list []api.Loop, count int) {
	headed := slices.Repeat([]int{none}, count)
	bySize := make([]int, len(list))
	for n, l := range list {
		headed[l.Head], bySize[n] = n, n
	}
	slices.SortStableFunc(bySize, func(x, y int) int { return cmp.Compare(len(list[x].Body), len(list[y].Body)) })
	for _, n := range bySize {
		for _, b := range list[n].Body {
			if inner := headed[b]; inner != none && inner != n && list[inner].Outer == none {
				list[inner].Outer = n
			}
		}
	}
	for _, n := range slices.Backward(bySize) {
		if outer := list[n].Outer; outer != none {
			list[n].Depth = list[outer].Depth + 1
		}
	}
}
