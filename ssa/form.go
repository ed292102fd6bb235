package ssa

import (
	"math"
	"slices"

	"gantry/api"
	"gantry/fault"
	"gantry/word"
)

// maxHanded is how many words a function is given at most, and how many it tells.
const maxHanded = api.MaxParams * api.MaxWords

func (r *reader) form() {
	fault.Must(areWords(r.c.Params) && areWords(r.c.Results), api.ErrSSAForm)
	fault.Must(len(r.c.Values) <= api.MaxValues, api.ErrSSAForm)
	formOfWays(r.c.Blocks)
	r.lists()
	for n, v := range r.c.Values {
		r.formOfValue(n, v)
	}
	for _, b := range r.c.Blocks {
		r.formOfEnd(b)
	}
}

func areWords(kinds []int) bool {
	return len(kinds) <= maxHanded && !slices.ContainsFunc(kinds, func(k int) bool { return !isWord(k) })
}

func isWord(kind int) bool { return word.Width(kind) > 0 }

// lists asks where values stand, and keeps it.
func (r *reader) lists() {
	r.home = slices.Repeat([]int{none}, len(r.c.Values))
	r.spot = make([]int, len(r.c.Values))
	for b, x := range r.c.Blocks {
		phis := b != 0
		for i, n := range x.List {
			fault.Must(r.isValue(n) && r.home[n] == none, api.ErrSSAForm)
			r.home[n], r.spot[n] = b, i
			isPhi := r.c.Values[n].Op == api.OpPhi
			fault.Must(phis || !isPhi, api.ErrSSAForm)
			phis = isPhi
		}
	}
}

func (r *reader) isValue(n int) bool {
	return isNumberOf(len(r.c.Values), n) && r.c.Values[n].Op != api.OpNone
}

func (r *reader) areValues(l []int) bool {
	return !slices.ContainsFunc(l, func(n int) bool { return !r.isValue(n) })
}

func (r *reader) formOfValue(n int, v api.Value) {
	if v.Op == api.OpNone {
		fault.Must(v.Kind == 0 && v.N == 0 && v.M == 0 && len(v.Args) == 0, api.ErrSSAForm)
		return
	}
	fault.Must(r.home[n] != none && r.areValues(v.Args) && r.hasArgs(n, v), api.ErrSSAForm)
	fault.Must(v.N == 0 || namesN(v.Op), api.ErrSSAForm)
	fault.Must(v.M == 0 || v.Op == api.OpAddr, api.ErrSSAForm)
}

// hasArgs tells whether a value has as many Args as its row says; what is no operation has no row.
func (r *reader) hasArgs(n int, v api.Value) bool {
	count := len(v.Args)
	switch v.Op {
	case api.OpConst, api.OpArg, api.OpInit, api.OpData:
		return count == 0
	case api.OpUn, api.OpConv, api.OpBlock, api.OpResult:
		return count == 1
	case api.OpBin, api.OpLoad, api.OpAlloc, api.OpEmit:
		return count == 2
	case api.OpSel, api.OpStore:
		return count == 3
	case api.OpAddr:
		return count == 1 || count == 2
	case api.OpPhi:
		return count == len(r.c.Blocks[r.home[n]].Preds)
	case api.OpCall:
		return isNumberOf(len(r.u.Codes), v.N) && count == len(r.u.Codes[v.N].Params)+1
	}
	return false
}

func namesN(op int) bool {
	switch op {
	case api.OpConv, api.OpPhi, api.OpSel, api.OpInit, api.OpAlloc, api.OpBlock, api.OpEmit:
		return false
	}
	return true
}

// formOfEnd asks of a block what its ways do not say.
func (r *reader) formOfEnd(b api.Block) {
	args := 0
	switch b.Kind {
	case api.BlockNone:
		fault.Must(len(b.List) == 0, api.ErrSSAForm)
	case api.BlockIf, api.BlockPanic:
		args = 1
	case api.BlockRet:
		args = len(r.c.Results) + 1
	}
	fault.Must(len(b.Args) == args && r.areValues(b.Args), api.ErrSSAForm)
	if b.Kind == api.BlockPanic {
		fault.Must(b.N >= 1 && b.N <= math.MaxInt32, api.ErrSSAForm)
	} else {
		fault.Must(b.N == 0, api.ErrSSAForm)
	}
}
