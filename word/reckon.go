package word

import "gantry/api"

type number interface{ int64 | uint64 | float64 }

// compare leans on the language's own order: of floats it is IEEE 754's, NaN and -0 too.
func compare[T number](op int, x, y T) uint64 {
	holds := false
	switch op {
	case api.BinEq:
		holds = x == y
	case api.BinNe:
		holds = x != y
	case api.BinLt:
		holds = x < y
	case api.BinLe:
		holds = x <= y
	case api.BinGt:
		holds = x > y
	case api.BinGe:
		holds = x >= y
	}
	if holds {
		return 1
	}
	return 0
}

// binSigned: where the sign makes a difference; the rest is as of unsigned kinds.
func binSigned(op, k int, x, y uint64) uint64 {
	a, b := int64(x), int64(y)
	switch op {
	case api.BinDiv:
		// The least number by -1 wraps round to itself: of 64 bits here, of fewer in Canon.
		return Canon(k, uint64(a/b))
	case api.BinRem:
		return Canon(k, uint64(a%b))
	case api.BinShr:
		return uint64(a >> y)
	}
	if isCompare(op) {
		return compare(op, a, b)
	}
	return binUnsigned(op, k, x, y)
}

// binUnsigned serves bools and pointers too: they have no operation here that their bits do not tell.
func binUnsigned(op, k int, x, y uint64) uint64 {
	if isCompare(op) {
		return compare(op, x, y)
	}
	z := uint64(0)
	switch op {
	case api.BinAdd:
		z = x + y
	case api.BinSub:
		z = x - y
	case api.BinMul:
		z = x * y
	case api.BinDiv:
		z = x / y
	case api.BinRem:
		z = x % y
	case api.BinAnd:
		z = x & y
	case api.BinOr:
		z = x | y
	case api.BinXor:
		z = x ^ y
	case api.BinShl:
		z = x << y
	case api.BinShr:
		z = x >> y
	}
	return Canon(k, z)
}
