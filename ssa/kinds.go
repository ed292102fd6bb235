package ssa

import (
	"slices"

	"gantry/api"
	"gantry/fault"
	"gantry/word"
)

// kinds asks of values and of blocks' ends what the table says beside their form.
func (r *reader) kinds() {
	inits := 0
	for n, v := range r.c.Values {
		fault.Must(r.fits(v, r.home[n]), api.ErrSSAType)
		if v.Op == api.OpInit {
			inits++
		}
	}
	fault.Must(inits == 1, api.ErrSSAType)
	for _, b := range r.c.Blocks {
		fault.Must(r.endFits(b), api.ErrSSAType)
	}
}

// fits tells whether a value of that block is what its row says.
func (r *reader) fits(v api.Value, block int) bool {
	switch v.Op {
	case api.OpConst:
		return word.Is(v.Kind, uint64(v.N))
	case api.OpArg:
		return block == 0 && isOneOf(r.c.Params, v)
	case api.OpUn:
		_, e := word.Un(int(v.N), r.kind(v.Args[0]), 0)
		return e == api.OK && v.Kind == r.kind(v.Args[0])
	case api.OpBin:
		return r.binFits(v)
	case api.OpConv:
		_, e := word.Conv(r.kind(v.Args[0]), v.Kind, 0)
		return e == api.OK
	case api.OpPhi:
		return (isWord(v.Kind) || v.Kind == api.KindMem) && r.areAll(v.Args, v.Kind)
	case api.OpSel:
		return isWord(v.Kind) && r.are(v.Args, api.KindBool, v.Kind, v.Kind)
	case api.OpBlock:
		return v.Kind == api.KindPtr && r.c.Values[v.Args[0]].Op == api.OpAlloc
	case api.OpResult:
		return r.resultFits(v)
	case api.OpData:
		return v.Kind == api.KindPtr && v.N >= 0 && v.N <= int64(len(r.u.Data))
	case api.OpAddr:
		return v.Kind == api.KindPtr && r.addrFits(v)
	case api.OpInit:
		return v.Kind == api.KindMem && block == 0
	case api.OpLoad:
		return isWord(v.Kind) && isOffset(v.N) && r.are(v.Args, api.KindPtr, api.KindMem)
	case api.OpStore, api.OpAlloc, api.OpEmit, api.OpCall:
		return v.Kind == api.KindMem && r.makes(v)
	}
	return true
}

// makes tells whether an operation that makes memory takes what its row says.
func (r *reader) makes(v api.Value) bool {
	switch v.Op {
	case api.OpStore:
		k := r.kind(v.Args[1])
		return isWord(k) && isOffset(v.N) && r.are(v.Args, api.KindPtr, k, api.KindMem)
	case api.OpAlloc:
		return r.are(v.Args, api.KindU64, api.KindMem)
	case api.OpEmit:
		k := r.kind(v.Args[0])
		return isWord(k) && k != api.KindPtr && r.are(v.Args, k, api.KindMem)
	}
	return r.areWithMemory(v.Args, r.u.Codes[v.N].Params)
}

func (r *reader) binFits(v api.Value) bool {
	first := r.kind(v.Args[0])
	if _, e := word.Bin(int(v.N), first, 0, 1); e != api.OK {
		return false
	}
	second, told := first, first
	switch {
	case v.N == api.BinShl || v.N == api.BinShr:
		second = api.KindU64
	case v.N >= api.BinEq:
		told = api.KindBool
	}
	return v.Kind == told && r.kind(v.Args[1]) == second
}

func (r *reader) resultFits(v api.Value) bool {
	call := r.c.Values[v.Args[0]]
	return call.Op == api.OpCall && isOneOf(r.u.Codes[call.N].Results, v)
}

func (r *reader) addrFits(v api.Value) bool {
	if !isOffset(v.N) || !isOffset(int64(v.M)) {
		return false
	}
	if len(v.Args) == 1 {
		return v.M == 0 && r.are(v.Args, api.KindPtr)
	}
	return r.are(v.Args, api.KindPtr, api.KindU64)
}

func (r *reader) endFits(b api.Block) bool {
	switch b.Kind {
	case api.BlockIf:
		return r.are(b.Args, api.KindBool)
	case api.BlockRet:
		return r.areWithMemory(b.Args, r.c.Results)
	case api.BlockPanic:
		return r.are(b.Args, api.KindMem)
	}
	return true
}

func (r *reader) kind(n int) int { return r.c.Values[n].Kind }

// are tells whether the values' kinds are these, one by one.
func (r *reader) are(values []int, kinds ...int) bool {
	return slices.EqualFunc(values, kinds, func(n, k int) bool { return r.kind(n) == k })
}

func (r *reader) areAll(values []int, kind int) bool {
	return !slices.ContainsFunc(values, func(n int) bool { return r.kind(n) != kind })
}

// areWithMemory tells whether the values' kinds are these, and memory behind them.
func (r *reader) areWithMemory(values, kinds []int) bool {
	return r.kind(last(values)) == api.KindMem && r.are(values[:len(values)-1], kinds...)
}

// isOneOf tells whether v's N is a number of these kinds, and v of that one.
func isOneOf(kinds []int, v api.Value) bool {
	return isNumberOf(len(kinds), v.N) && kinds[v.N] == v.Kind
}

func isOffset(n int64) bool { return n >= 0 && n <= api.MaxSize }
