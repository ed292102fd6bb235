package live

import (
	"slices"

	"gantry/api"
)

// The model goes the ways that a run may go, one place at a step, all of them at once, until it comes to a use.

// spot is a place of a block: of a value in its List; the List's length: its Args; one more: its end.
type spot struct{ block, place int }

// modelUsed tells whether v is used at a spot.
func modelUsed(c api.Code, v int, at spot) bool {
	x := c.Blocks[at.block]
	switch {
	case at.place < len(x.List):
		user := c.Values[x.List[at.place]]
		return user.Op != api.OpPhi && slices.Contains(user.Args, v)
	case at.place == len(x.List):
		return slices.Contains(x.Args, v)
	}
	for _, s := range x.Succs {
		for _, n := range c.Blocks[s].List {
			for i, p := range c.Blocks[s].Preds {
				if user := c.Values[n]; user.Op == api.OpPhi && p == at.block && user.Args[i] == v {
					return true
				}
			}
		}
	}
	return false
}

// modelFar tells how many steps it is from a spot to a use of v; -1: no way comes to one. The step into a block takes nothing; no way goes into the block that makes v.
func modelFar(c api.Code, v int, start spot) int {
	seen := map[spot]bool{}
	now := []spot{start}
	for far := 0; len(now) > 0; far++ {
		var next []spot
		for i := 0; i < len(now); i++ {
			at := now[i]
			if seen[at] {
				continue
			}
			seen[at] = true
			if modelUsed(c, v, at) {
				return far
			}
			if at.place <= len(c.Blocks[at.block].List) {
				next = append(next, spot{at.block, at.place + 1})
				continue
			}
			for _, s := range c.Blocks[at.block].Succs {
				if !slices.Contains(c.Blocks[s].List, v) {
					now = append(now, spot{s, 0})
				}
			}
		}
		now = next
	}
	return -1
}

func modelCounts(v api.Value) bool { return v.Op != api.OpNone && v.Kind != api.KindMem }

func modelIns(c api.Code) [][]int {
	all := make([][]int, len(c.Blocks))
	for b, x := range c.Blocks {
		for v, made := range c.Values {
			if x.Kind != api.BlockNone && modelCounts(made) && !slices.Contains(x.List, v) && modelFar(c, v, spot{b, 0}) >= 0 {
				all[b] = append(all[b], v)
			}
		}
	}
	return all
}

// modelOuts tells Outs and Far: a step from the end is one into a block.
func modelOuts(c api.Code) ([][]int, [][]api.Next) {
	outs, all := make([][]int, len(c.Blocks)), make([][]api.Next, len(c.Blocks))
	for b, x := range c.Blocks {
		for v, made := range c.Values {
			if x.Kind == api.BlockNone || !modelCounts(made) {
				continue
			}
			if far := modelFar(c, v, spot{b, len(x.List) + 1}); far >= 0 {
				outs[b] = append(outs[b], v)
				all[b] = append(all[b], api.Next{Value: v, Far: far})
			}
		}
	}
	return outs, all
}
