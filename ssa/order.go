package ssa

import (
	"gantry/api"
	"gantry/fault"
)

// order asks that each use stands behind its definition.
func (r *reader) order() {
	for n, v := range r.c.Values {
		for i, a := range v.Args {
			block, place := r.home[n], r.spot[n]
			if v.Op == api.OpPhi {
				block = r.c.Blocks[block].Preds[i]
				place = len(r.c.Blocks[block].List)
			}
			fault.Must(r.isAhead(a, block, place), api.ErrSSAOrder)
		}
	}
	for b, x := range r.c.Blocks {
		for _, a := range x.Args {
			fault.Must(r.isAhead(a, b, len(x.List)), api.ErrSSAOrder)
		}
	}
}

// isAhead tells whether the value n is defined ahead of that place of a block's List.
func (r *reader) isAhead(n, block, place int) bool {
	if r.home[n] == block {
		return r.spot[n] < place
	}
	return r.tree.dominates(r.home[n], block)
}
