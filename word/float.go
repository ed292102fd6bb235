package word

import (
	"math"

	"gantry/api"
)

const (
	theNaN  = 0x7ff8000000000000
	signBit = 1 << 63
)

// flipSign works on the bits, for a NaN keeps its others.
func flipSign(x uint64) uint64 { return x ^ signBit }

func binFloat(op int, x, y uint64) uint64 {
	a, b := math.Float64frombits(x), math.Float64frombits(y)
	if isCompare(op) {
		return compare(op, a, b)
	}
	z := 0.0
	switch op {
	case api.BinAdd:
		z = a + b
	case api.BinSub:
		z = a - b
	case api.BinMul:
		z = a * b
	case api.BinDiv:
		z = a / b
	}
	return oneNaN(z)
}

// oneNaN: which NaN an operation makes hangs on the machine, so all of them are told as one.
func oneNaN(z float64) uint64 {
	if z != z {
		return theNaN
	}
	return math.Float64bits(z)
}

// truncate is the float rounded to 0, in 64 bits of two's complement; 2^63 where it does not fit.
func truncate(x uint64) uint64 {
	f := math.Float64frombits(x)
	if f >= -(1<<63) && f < 1<<63 {
		return uint64(int64(f))
	}
	return signBit
}

func nearest(from int, x uint64) uint64 {
	if isSigned(from) {
		return math.Float64bits(float64(int64(x)))
	}
	return math.Float64bits(float64(x))
}
