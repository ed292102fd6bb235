package cisc

import (
	"math/bits"

	"gantry/api"
)

// write lays down what i's row names; what does not fit into its byte is cut.
func write(i api.Inst) []byte {
	b := []byte{byte(i.Op)}
	size := sizeOf(i.Imm)
	parts, _ := row(i.Op)
	for _, p := range parts {
		switch p {
		case partAB:
			b = append(b, pair(i.A, i.B))
		case partAn:
			b = append(b, pair(i.A, size))
		case partCS:
			b = append(b, pair(i.C, logOf(i.Scale)))
		case partK:
			b = append(b, byte(i.K))
		case partSub:
			b = append(b, byte(i.Sub))
		case partSize:
			b = append(b, byte(size))
		case partCond:
			b = append(b, pair(i.Sub-api.BinEq, size))
		case partImm:
			b = appendNumber(b, i.Imm, bytesOf(size))
		case partImm4:
			b = appendNumber(b, i.Imm, 4)
		}
	}
	return b
}

func pair(upper, lower int) byte { return byte(16*upper + lower) }

func logOf(scale int) int {
	if scale == 0 {
		return noScale
	}
	return bits.TrailingZeros(uint(scale))
}

func appendNumber(b []byte, x int64, n int) []byte {
	for at := range n {
		b = append(b, byte(x>>(8*at)))
	}
	return b
}
