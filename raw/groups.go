package raw

import "math"

// Counts and numbers stand in groups of 7 bits, a byte each.
const (
	groupBits = 7
	groupMore = 1 << groupBits // what a byte has more, if others follow

	maxCount    = math.MaxInt32
	countBytes  = 5
	countLast   = 7 // the fifth byte has the upper 3 of 31 bits
	numberBytes = 10
	numberLast  = 1 // the tenth byte has the upper one of 64 bits
)

// fold tells the 64 bits of a number, so that those near 0 need few groups, whatever their sign.
func fold(n int64) uint64 {
	if n < 0 {
		return 2*uint64(-(n+1)) + 1
	}
	return 2 * uint64(n)
}

func unfold(x uint64) int64 {
	if x%2 == 1 {
		return -int64(x/2) - 1
	}
	return int64(x / 2)
}
