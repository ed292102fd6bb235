package fold

import (
	"math"

	"gantry/api"
	"gantry/word"
)

// bin: of floats no rule fits but that of OpConsts: what x + 0, x * 1, x - x, x == x are hangs on whether x is a NaN, or -0.
func (f *folder) bin(n int, v *api.Value) {
	x, y := f.arg(v, 0), f.arg(v, 1)
	switch first, second := x.Op == api.OpConst, y.Op == api.OpConst; {
	case first && second:
		f.become(n, known(word.Bin(int(v.N), x.Kind, uint64(x.N), uint64(y.N))))
	case first:
		need(isInt(x.Kind) && mayTurn(v.N))
		v.Args[0], v.Args[1] = v.Args[1], v.Args[0]
	case second:
		need(isInt(x.Kind))
		f.by(n, v, x.Kind, uint64(y.N))
	default:
		need(v.Args[0] == v.Args[1] && x.Kind != api.KindF64)
		f.twice(n, v)
	}
}

func isInt(kind int) bool { return kind >= api.KindI8 && kind <= api.KindU64 }

// mayTurn tells whether x op y is y op x.
func mayTurn(op int64) bool {
	switch op {
	case api.BinAdd, api.BinMul, api.BinAnd, api.BinOr, api.BinXor:
		return true
	}
	return false
}

// by: an OpBin by the OpConst c, of an int kind.
func (f *folder) by(n int, v *api.Value, kind int, c uint64) {
	if isNothing(v.N, kind, c) {
		f.stand(n, v.Args[0])
		return
	}
	need(isAll(v.N, kind, c))
	f.stand(n, v.Args[1])
}

// ones is the word whose bits are all 1.
func ones(kind int) uint64 { return word.Canon(kind, math.MaxUint64) }

// isNothing tells whether x op c is x, whatever x is.
func isNothing(op int64, kind int, c uint64) bool {
	switch op {
	case api.BinAdd, api.BinSub, api.BinOr, api.BinXor, api.BinShl, api.BinShr:
		return c == 0
	case api.BinMul, api.BinDiv:
		return c == 1
	case api.BinAnd:
		return c == ones(kind)
	}
	return false
}

// isAll tells whether x op c is c, whatever x is.
func isAll(op int64, kind int, c uint64) bool {
	switch op {
	case api.BinMul, api.BinAnd:
		return c == 0
	case api.BinOr:
		return c == ones(kind)
	}
	return false
}

// twice: an OpBin of one value twice, that has an order without gaps: of no float.
func (f *folder) twice(n int, v *api.Value) {
	switch v.N {
	case api.BinAnd, api.BinOr:
		f.stand(n, v.Args[0])
	case api.BinSub, api.BinXor, api.BinNe, api.BinLt, api.BinGt:
		f.become(n, 0)
	case api.BinEq, api.BinLe, api.BinGe:
		f.become(n, 1)
	default:
		panic(misfit{})
	}
}
