package flow

import "gantry/api"

// walk is how blocks are gone through from block 0, deep ahead of wide.
type walk struct {
	reached *set  // the blocks, in the order in which they are come to
	parent  []int // of each place in that order that of the block from which it is come to
	post    []int // the blocks, in the order in which they are left
}

func newWalk(blocks []api.Block) *walk {
	w := &walk{reached: newSet(len(blocks))}
	var visit func(b, parent int)
	visit = func(b, parent int) {
		own := len(w.parent)
		w.reached.add(b)
		w.parent = append(w.parent, parent)
		for _, s := range blocks[b].Succs {
			if !w.reached.has(s) {
				visit(s, own)
			}
		}
		w.post = append(w.post, b)
	}
	visit(0, none)
	return w
}

func postorder(blocks []api.Block) []int { return newWalk(blocks).post }
