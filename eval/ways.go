package eval

import "gantry/api"

// none stands for a way's number that is not known yet.
const none = -1

// way is one from a block to one of its Succs.
type way struct {
	number int   // which one of the Preds there it is
	gone   bool  // whether takes is known
	takes  []int // what the OpPhis there take by it
}

// ways tells of each block its ways, as many as it has Succs; of two equal ones of Preds the first one goes with Succs[0].
func ways(blocks []api.Block) [][2]way {
	told := make([][2]way, len(blocks))
	for b := range told {
		told[b] = [2]way{{number: none}, {number: none}}
	}
	for n, b := range blocks {
		for i, p := range b.Preds {
			exit := 0
			if blocks[p].Succs[0] != n || told[p][0].number != none {
				exit = 1
			}
			told[p][exit].number = i
		}
	}
	return told
}

// way tells a block's way. What OpPhis take by it is found when it is gone first: it may be gone often, and they may be many.
func (c *code) way(block, exit int) *way {
	w := &c.ways[block][exit]
	if w.gone {
		return w
	}
	w.gone = true
	for _, n := range c.Blocks[c.Blocks[block].Succs[exit]].List {
		v := &c.Values[n]
		if v.Op != api.OpPhi {
			break
		}
		w.takes = append(w.takes, v.Args[w.number])
	}
	return w
}
