package word

import (
	"math"
	"math/big"
	"testing"

	"gantry/api"
)

func isNaN(x uint64) bool { return x&^minusZero > posInf }

func isFinite(x uint64) bool { return x&^minusZero < posInf }

// exact reckons by big fractions, which round once, to nearest, ties to even; x and y are finite, a divisor not 0.
func exact(op int, x, y uint64) (uint64, bool) {
	a, b, z := new(big.Rat), new(big.Rat), new(big.Rat)
	a.SetFloat64(math.Float64frombits(x))
	b.SetFloat64(math.Float64frombits(y))
	switch op {
	case api.BinAdd:
		z.Add(a, b)
	case api.BinSub:
		z.Sub(a, b)
	case api.BinMul:
		z.Mul(a, b)
	case api.BinDiv:
		z.Quo(a, b)
	}
	f, _ := z.Float64()
	return bitsOf(f), z.Sign() != 0
}

// TestFloatSums: P1.3, IEEE 754's rounding.
func TestFloatSums(t *testing.T) {
	for op := api.BinAdd; op <= api.BinDiv; op++ {
		for _, x := range someFloats() {
			for _, y := range someFloats() {
				got, e := Bin(op, api.KindF64, x, y)
				if isNaN(x) || isNaN(y) {
					expect(t, "Bin", op, api.KindF64, x, y, got, nan, e, api.OK)
					continue
				}
				if !isFinite(x) || !isFinite(y) || op == api.BinDiv && y&^minusZero == 0 {
					continue
				}
				if want, told := exact(op, x, y); told {
					expect(t, "Bin", op, api.KindF64, x, y, got, want, e, api.OK)
				} else if got&^minusZero != 0 || e != api.OK {
					t.Errorf("Bin op %d of %#x, %#x: %#x, want a zero", op, x, y, got)
				}
			}
		}
	}
}

// TestFloatEdges: P1.3, zeros' signs, infinities, the one NaN.
func TestFloatEdges(t *testing.T) {
	one, two := bitsOf(1), bitsOf(2)
	for _, c := range []struct {
		op         int
		x, y, want uint64
	}{
		{api.BinAdd, posInf, negInf, nan}, {api.BinSub, posInf, posInf, nan}, {api.BinSub, posInf, negInf, posInf}, {api.BinAdd, posInf, one, posInf},
		{api.BinMul, posInf, 0, nan}, {api.BinMul, minusZero, negInf, nan}, {api.BinMul, negInf, two, negInf},
		{api.BinDiv, 0, 0, nan}, {api.BinDiv, minusZero, 0, nan}, {api.BinDiv, posInf, negInf, nan}, {api.BinDiv, one, 0, posInf}, {api.BinDiv, one, minusZero, negInf}, {api.BinDiv, one, negInf, minusZero},
		{api.BinAdd, 0, minusZero, 0}, {api.BinAdd, minusZero, minusZero, minusZero}, {api.BinSub, minusZero, 0, minusZero}, {api.BinSub, one, one, 0}, {api.BinMul, bitsOf(-1), 0, minusZero}, {api.BinMul, minusZero, minusZero, 0}, {api.BinDiv, minusZero, two, minusZero},
		{api.BinMul, 1, bitsOf(0.5), 0}, {api.BinMul, 3, bitsOf(0.5), 2}, {api.BinMul, bitsOf(1e300), bitsOf(1e10), posInf},
		{api.BinAdd, bitsOf(1 << 53), one, bitsOf(1 << 53)}, {api.BinAdd, bitsOf(1<<53 + 2), one, bitsOf(1<<53 + 4)}, {api.BinAdd, bitsOf(0.1), bitsOf(0.2), bitsOf(0.30000000000000004)},
	} {
		got, e := Bin(c.op, api.KindF64, c.x, c.y)
		expect(t, "Bin", c.op, api.KindF64, c.x, c.y, got, c.want, e, api.OK)
	}
}

// TestFloatOrder: P1.3, comparisons.
func TestFloatOrder(t *testing.T) {
	for op := api.BinEq; op <= api.BinGe; op++ {
		for _, x := range someFloats() {
			for _, y := range someFloats() {
				want := uint64(0)
				if isNaN(x) || isNaN(y) {
					if op == api.BinNe {
						want = 1
					}
				} else {
					a, b := big.NewFloat(math.Float64frombits(x)), big.NewFloat(math.Float64frombits(y))
					want = holds(op, a.Cmp(b))
				}
				got, e := Bin(op, api.KindF64, x, y)
				expect(t, "Bin", op, api.KindF64, x, y, got, want, e, api.OK)
			}
		}
	}
}

// TestConvInts: P1.4, int to int.
func TestConvInts(t *testing.T) {
	for _, from := range intKinds {
		for _, to := range intKinds {
			for _, x := range someWords(from) {
				got, e := Conv(from, to, x)
				expect(t, "Conv", from, to, x, 0, got, wordOf(to, numberOf(from, x)), e, api.OK)
			}
		}
	}
}

// TestConvToFloat: P1.4, the nearest, ties to even.
func TestConvToFloat(t *testing.T) {
	for _, from := range intKinds {
		for _, x := range someWords(from) {
			f, _ := new(big.Rat).SetInt(numberOf(from, x)).Float64()
			got, e := Conv(from, api.KindF64, x)
			expect(t, "Conv", from, api.KindF64, x, 0, got, bitsOf(f), e, api.OK)
		}
	}
	for _, c := range []struct {
		k       int
		x, want uint64
	}{
		{api.KindU64, math.MaxUint64, bitsOf(1 << 64)}, {api.KindI64, neg(1), bitsOf(-1)}, {api.KindI8, 0, 0},
		{api.KindI64, 1<<53 + 1, bitsOf(1 << 53)}, {api.KindI64, 1<<53 + 3, bitsOf(1<<53 + 4)}, {api.KindI64, neg(1<<53 + 1), bitsOf(-1 << 53)},
		{api.KindU64, 1<<63 + 1<<10, bitsOf(1 << 63)}, {api.KindU64, 1<<63 + 1<<10 + 1, bitsOf(1<<63 + 1<<11)}, {api.KindU64, 1<<63 + 3<<10, bitsOf(1<<63 + 1<<12)},
	} {
		got, e := Conv(c.k, api.KindF64, c.x)
		expect(t, "Conv", c.k, api.KindF64, c.x, 0, got, c.want, e, api.OK)
	}
}

// TestConvFromFloat: P1.4, rounded to 0; 2^63 for what does not fit; then the kind's lowest bits.
func TestConvFromFloat(t *testing.T) {
	least, behind := new(big.Int).Lsh(big.NewInt(-1), 63), new(big.Int).Lsh(big.NewInt(1), 63)
	for _, to := range intKinds {
		for _, x := range someFloats() {
			n := new(big.Int).Set(behind)
			if isFinite(x) {
				big.NewFloat(math.Float64frombits(x)).Int(n)
			}
			if n.Cmp(least) < 0 || n.Cmp(behind) >= 0 {
				n.Set(behind)
			}
			got, e := Conv(api.KindF64, to, x)
			expect(t, "Conv", api.KindF64, to, x, 0, got, wordOf(to, n), e, api.OK)
		}
	}
	for _, x := range someFloats() {
		got, e := Conv(api.KindF64, api.KindF64, x)
		expect(t, "Conv", api.KindF64, api.KindF64, x, 0, got, x, e, api.OK)
	}
}

// TestConvErrors: P1.4; the kind's error comes ahead of the form's.
func TestConvErrors(t *testing.T) {
	isNumberOf := func(k int) bool { return isIntOf(k) || k == api.KindF64 }
	bad := uint64(0x8123456789abcdef)
	kinds := append(append([]int{}, wordKinds...), noKinds...)
	for _, from := range kinds {
		for _, to := range kinds {
			if !isNumberOf(from) || !isNumberOf(to) {
				for _, x := range []uint64{0, bad} {
					got, e := Conv(from, to, x)
					expect(t, "Conv", from, to, x, 0, got, 0, e, api.ErrWordKind)
				}
			} else if widthOf(from) < 64 {
				got, e := Conv(from, to, bad)
				expect(t, "Conv", from, to, bad, 0, got, 0, e, api.ErrWordForm)
			}
		}
	}
}
