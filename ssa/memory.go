package ssa

import (
	"gantry/api"
	"gantry/fault"
)

// memory asks that there is one memory at each place. Kinds and order are right: all that takes memory takes it last.
func (r *reader) memory() {
	begin, end := make([]int, len(r.c.Blocks)), make([]int, len(r.c.Blocks))
	for _, b := range r.tree.order {
		begin[b] = r.begin(b, end)
		end[b] = r.chain(b, begin[b])
	}
	for _, b := range r.tree.order {
		r.join(b, begin[b], end)
	}
}

// begin tells the memory at a block's beginning; the end of its immediate dominator is known already.
func (r *reader) begin(b int, end []int) int {
	at := none
	for _, n := range r.c.Blocks[b].List {
		v := r.c.Values[n]
		if v.Op == api.OpInit || v.Op == api.OpPhi && v.Kind == api.KindMem {
			fault.Must(at == none, api.ErrSSAMem)
			at = n
		}
	}
	if at == none {
		return end[r.tree.above[b]]
	}
	return at
}

// chain goes from the memory at a block's beginning to the one at its end.
func (r *reader) chain(b, now int) int {
	block := r.c.Blocks[b]
	for _, n := range block.List {
		v := r.c.Values[n]
		switch v.Op {
		case api.OpLoad:
			fault.Must(last(v.Args) == now, api.ErrSSAMem)
		case api.OpStore, api.OpAlloc, api.OpEmit, api.OpCall:
			fault.Must(last(v.Args) == now, api.ErrSSAMem)
			now = n
		}
	}
	if block.Kind == api.BlockRet || block.Kind == api.BlockPanic {
		fault.Must(last(block.Args) == now, api.ErrSSAMem)
	}
	return now
}

// join asks that each way into a block brings the memory that it begins with, or what its OpPhi takes from there.
func (r *reader) join(b, begin int, end []int) {
	v := r.c.Values[begin]
	isPhi := v.Op == api.OpPhi && r.home[begin] == b
	for i, p := range r.c.Blocks[b].Preds {
		if isPhi {
			fault.Must(v.Args[i] == end[p], api.ErrSSAMem)
		} else {
			fault.Must(begin == end[p], api.ErrSSAMem)
		}
	}
}
