package draft

import (
	"math"

	"gantry/api"
	"gantry/word"
)

// Words of floats.
const (
	Inf      = 0x7ff0000000000000
	MinusInf = 0xfff0000000000000
	Nan      = 0x7ff8000000000000
	OtherNaN = 0xfff0000000000001
	Minus0   = 1 << 63
)

func BitsOf(x float64) uint64 { return math.Float64bits(x) }

// Float is a constant with these bits.
func Float(x uint64) api.Expr { return Con(F64, int64(x)) }

// Wholes are the types of whole numbers, the signed ones first.
func Wholes() []int { return []int{I8, I16, I32, I64, U8, U16, U32, U64} }

// Least and Greatest tell the edges of a type of whole numbers, as constants have them.
func Least(t int) int64 {
	if !IsSigned(t) {
		return 0
	}
	return -Greatest(t) - 1
}

func Greatest(t int) int64 {
	k := KindOf(t)
	if IsSigned(t) {
		return 1<<(word.Width(k)-1) - 1
	}
	return int64(word.Canon(k, math.MaxUint64))
}

func IsSigned(t int) bool { return KindOf(t) <= api.KindI64 }

func isWhole(k int) bool { return k == I64 || k >= I8 && k <= U64 }

func isNumber(k int) bool { return isWhole(k) || k == F64 }

func isList(k int) bool { return KindOf(k) == api.TypeSlice }

func isPointer(k int) bool { return KindOf(k) == api.KindPtr }
