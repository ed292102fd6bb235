package hand

import (
	"math"

	"gantry/word"
)

// Words of floats.
const (
	Minus0   = 1 << 63
	Inf      = 0x7ff0000000000000
	MinusInf = 0xfff0000000000000
	NaN      = 0x7ff8000000000000
	OtherNaN = 0xfff0000000000001
)

func Bits(x float64) uint64 { return math.Float64bits(x) }

// Minus is a number below 0 as a word.
func Minus(n int) uint64 { return uint64(-n) }

// Ones is the word of the kind whose bits are all 1.
func Ones(kind int) uint64 { return word.Canon(kind, math.MaxUint64) }

func IsInt(kind int) bool { return kind >= I8 && kind <= U64 }

func IsSigned(kind int) bool { return kind >= I8 && kind <= I64 }

// Ints are the int kinds, Words all kinds of words.
func Ints() []int { return list(I8, I16, I32, I64, U8, U16, U32, U64) }

func Words() []int { return append(Ints(), Yes, F64, Ptr) }

// Least and Greatest tell the edges of an int kind.
func Least(kind int) uint64 { return Greatest(kind) ^ Ones(kind) }

func Greatest(kind int) uint64 {
	if IsSigned(kind) {
		return 1<<(word.Width(kind)-1) - 1
	}
	return Ones(kind)
}

// Edges tells words of the kind, the edges among them.
func Edges(kind int) []uint64 {
	switch kind {
	case Yes:
		return []uint64{0, 1}
	case F64:
		return []uint64{0, Minus0, Inf, MinusInf, NaN, OtherNaN, 1, Bits(1), Bits(-1.5), Bits(math.MaxFloat64), Bits(1 << 63)}
	case Ptr:
		return []uint64{0, 1, 1 << 12, 1 << 63, math.MaxUint64}
	}
	l := []uint64{0, 1, 2, 7, 100, Greatest(kind), Greatest(kind) - 1}
	if IsSigned(kind) {
		l = append(l, Minus(1), Minus(2), Least(kind), Least(kind)+1)
	}
	return l
}
