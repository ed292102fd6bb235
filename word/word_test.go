package word

import (
	"math"
	"math/big"
	"testing"

	"gantry/api"
)

func neg(n int64) uint64 { return uint64(-n) }

func bitsOf(x float64) uint64 { return math.Float64bits(x) }

var (
	intKinds  = []int{api.KindI8, api.KindI16, api.KindI32, api.KindI64, api.KindU8, api.KindU16, api.KindU32, api.KindU64}
	wordKinds = append([]int{api.KindBool, api.KindF64, api.KindPtr}, intKinds...)
	noKinds   = []int{api.KindNone, api.KindMem, -1, 13, 64, math.MaxInt, math.MinInt}
)

var (
	posInf = bitsOf(math.Inf(1))
	negInf = bitsOf(math.Inf(-1))
)

const (
	minusZero = uint64(1) << 63
	nan       = uint64(0x7ff8000000000000)
	quiet     = nan | 5
	signal    = uint64(0x7ff0000000000001)
)

// signs and widths of the tests' own, so that a fault of the program's does not hide itself.
func widthOf(k int) uint {
	switch k {
	case api.KindBool:
		return 1
	case api.KindI8, api.KindU8:
		return 8
	case api.KindI16, api.KindU16:
		return 16
	case api.KindI32, api.KindU32:
		return 32
	}
	return 64
}

func signedOf(k int) bool {
	return k == api.KindI8 || k == api.KindI16 || k == api.KindI32 || k == api.KindI64
}

func isIntOf(k int) bool {
	for _, j := range intKinds {
		if j == k {
			return true
		}
	}
	return false
}

// numberOf is the number that the word stands for.
func numberOf(k int, x uint64) *big.Int {
	if signedOf(k) {
		return big.NewInt(int64(x))
	}
	return new(big.Int).SetUint64(x)
}

// wordOf is the number modulo 2^width as a word of the int kind k.
func wordOf(k int, n *big.Int) uint64 {
	full := new(big.Int).Lsh(big.NewInt(1), widthOf(k))
	m := new(big.Int).Mod(n, full)
	if signedOf(k) && m.Bit(int(widthOf(k))-1) == 1 {
		m.Sub(m, full)
	}
	if m.Sign() < 0 {
		return uint64(m.Int64())
	}
	return m.Uint64()
}

// someWords are all words of kinds of 8 bits, the edges and a spread of wider ones.
func someWords(k int) []uint64 {
	var out []uint64
	if widthOf(k) == 8 {
		for i := int64(0); i < 256; i++ {
			out = append(out, wordOf(k, big.NewInt(i)))
		}
		return out
	}
	if k == api.KindBool {
		return []uint64{0, 1}
	}
	x := uint64(0x9e3779b97f4a7c15)
	for _, n := range []int64{0, 1, 2, 3, 7, 10, 127, 128, 255, 256, 32767, 32768, 65535, 65536, 1<<31 - 1, 1 << 31, 1<<32 - 1, 1 << 32, 1 << 53, 1<<53 + 1, math.MaxInt64, math.MinInt64} {
		x = x*6364136223846793005 + 1442695040888963407
		for _, m := range []uint64{uint64(n), -uint64(n), x, x >> 23} {
			out = append(out, wordOf(k, new(big.Int).SetUint64(m)))
		}
	}
	return out
}

func someFloats() []uint64 {
	out := []uint64{0, minusZero, posInf, negInf, nan, quiet, signal, nan | minusZero, signal | minusZero, 1, minusZero | 1, 0x000fffffffffffff, 0x0010000000000000, 0x7fefffffffffffff, 0xffefffffffffffff}
	for _, f := range []float64{0.1, 0.2, 0.5, 1, 1.5, 2, 2.5, 3, 10, 127.9, 128, 255.9, 256, 300.7, 1e10, 1 << 52, 1 << 53, 1<<53 + 2, 1 << 62, 1<<63 - 1024, 1 << 63, 1<<63 + 2048, 1 << 64, 1e300, 1e-300, math.Pi, 1 / 3.0, 1e-160, 1e160} {
		out = append(out, bitsOf(f), bitsOf(-f))
	}
	return out
}

func expect(t *testing.T, what string, op, k int, x, y, got, want uint64, e, we api.Errno) {
	t.Helper()
	if got != want || e != we {
		t.Errorf("%s op %d kind %d of %#x, %#x: %#x, %d, want %#x, %d", what, op, k, x, y, got, e, want, we)
	}
}

// TestKinds: P1.1.
func TestKinds(t *testing.T) {
	sizes := []struct{ k, width, bytes int }{
		{api.KindBool, 1, 1}, {api.KindI8, 8, 1}, {api.KindI16, 16, 2}, {api.KindI32, 32, 4}, {api.KindI64, 64, 8},
		{api.KindU8, 8, 1}, {api.KindU16, 16, 2}, {api.KindU32, 32, 4}, {api.KindU64, 64, 8}, {api.KindF64, 64, 8}, {api.KindPtr, 64, 8},
	}
	for _, c := range sizes {
		if Width(c.k) != c.width || Bytes(c.k) != c.bytes {
			t.Errorf("kind %d: width %d, bytes %d", c.k, Width(c.k), Bytes(c.k))
		}
	}
	for _, k := range noKinds {
		for _, x := range []uint64{0, 1, math.MaxUint64} {
			if Width(k) != 0 || Bytes(k) != 0 || Canon(k, x) != 0 || Is(k, x) {
				t.Errorf("no kind %d, %#x: %d, %d, %#x, %v", k, x, Width(k), Bytes(k), Canon(k, x), Is(k, x))
			}
		}
	}
}

// TestCanon: P1.1.
func TestCanon(t *testing.T) {
	for _, k := range wordKinds {
		for _, x := range append(someWords(api.KindU64), someFloats()...) {
			want := x
			if k == api.KindBool {
				want = x % 2
			} else if isIntOf(k) {
				want = wordOf(k, new(big.Int).SetUint64(x))
			}
			if got := Canon(k, x); got != want {
				t.Errorf("Canon(%d, %#x): %#x, want %#x", k, x, got, want)
			}
			if Is(k, x) != (x == want) {
				t.Errorf("Is(%d, %#x): %v", k, x, Is(k, x))
			}
			if !Is(k, Canon(k, x)) {
				t.Errorf("Canon(%d, %#x) is no word", k, x)
			}
		}
	}
}

// TestIsEdges: P1.1, by numbers that the chapter's section 'Words' gives.
func TestIsEdges(t *testing.T) {
	for _, c := range []struct {
		k  int
		x  uint64
		is bool
	}{
		{api.KindBool, 1, true}, {api.KindBool, 2, false}, {api.KindBool, neg(1), false},
		{api.KindI8, 127, true}, {api.KindI8, 128, false}, {api.KindI8, 255, false}, {api.KindI8, neg(128), true}, {api.KindI8, neg(129), false},
		{api.KindI16, 32767, true}, {api.KindI16, 32768, false}, {api.KindI16, neg(32768), true}, {api.KindI16, neg(32769), false},
		{api.KindI32, 1<<31 - 1, true}, {api.KindI32, 1 << 31, false}, {api.KindI32, neg(1 << 31), true}, {api.KindI32, neg(1<<31 + 1), false},
		{api.KindI64, 1 << 63, true}, {api.KindU8, 255, true}, {api.KindU8, 256, false}, {api.KindU8, neg(1), false},
		{api.KindU16, 65535, true}, {api.KindU16, 65536, false}, {api.KindU32, 1<<32 - 1, true}, {api.KindU32, 1 << 32, false},
		{api.KindU64, neg(1), true}, {api.KindF64, signal, true}, {api.KindPtr, neg(1), true},
	} {
		if Is(c.k, c.x) != c.is {
			t.Errorf("Is(%d, %#x): %v", c.k, c.x, !c.is)
		}
	}
}

// TestUnInts: P1.2.
func TestUnInts(t *testing.T) {
	for _, k := range intKinds {
		for _, x := range someWords(k) {
			n := numberOf(k, x)
			got, e := Un(api.UnNeg, k, x)
			expect(t, "Un", api.UnNeg, k, x, 0, got, wordOf(k, new(big.Int).Neg(n)), e, api.OK)
			got, e = Un(api.UnCom, k, x)
			expect(t, "Un", api.UnCom, k, x, 0, got, wordOf(k, new(big.Int).Not(n)), e, api.OK)
		}
	}
}

// TestUnOthers: P1.2.
func TestUnOthers(t *testing.T) {
	for x := uint64(0); x < 2; x++ {
		got, e := Un(api.UnNot, api.KindBool, x)
		expect(t, "Un", api.UnNot, api.KindBool, x, 0, got, 1-x, e, api.OK)
	}
	for _, x := range someFloats() {
		got, e := Un(api.UnNeg, api.KindF64, x)
		expect(t, "Un", api.UnNeg, api.KindF64, x, 0, got, x+minusZero, e, api.OK)
	}
}

// TestUnErrors: P1.2; the kind's error comes ahead of the form's.
func TestUnErrors(t *testing.T) {
	ops := []int{api.UnNone, api.UnNeg, api.UnNot, api.UnCom, api.UnCom + 1, -1, math.MaxInt, math.MinInt}
	for _, k := range append(wordKinds, noKinds...) {
		for _, op := range ops {
			has := op == api.UnNot && k == api.KindBool || op == api.UnNeg && k == api.KindF64 || isIntOf(k) && (op == api.UnNeg || op == api.UnCom)
			want := api.ErrWordKind
			if has {
				want = api.ErrWordForm
			}
			bad := uint64(0x8123456789abcdef)
			if has && widthOf(k) == 64 {
				continue
			}
			got, e := Un(op, k, bad)
			expect(t, "Un", op, k, bad, 0, got, 0, e, want)
		}
	}
}

// binInts reckons by big numbers.
func binInts(op, k int, x, y uint64) uint64 {
	a, b, z := numberOf(k, x), numberOf(k, y), new(big.Int)
	switch op {
	case api.BinAdd:
		z.Add(a, b)
	case api.BinSub:
		z.Sub(a, b)
	case api.BinMul:
		z.Mul(a, b)
	case api.BinDiv:
		z.Quo(a, b)
	case api.BinRem:
		z.Rem(a, b)
	case api.BinAnd:
		z.And(a, b)
	case api.BinOr:
		z.Or(a, b)
	case api.BinXor:
		z.Xor(a, b)
	default:
		return holds(op, a.Cmp(b))
	}
	return wordOf(k, z)
}

func holds(op, order int) uint64 {
	is := map[int]bool{api.BinEq: order == 0, api.BinNe: order != 0, api.BinLt: order < 0, api.BinLe: order <= 0, api.BinGt: order > 0, api.BinGe: order >= 0}
	if is[op] {
		return 1
	}
	return 0
}

func isShift(op int) bool { return op == api.BinShl || op == api.BinShr }

func isDivision(op int) bool { return op == api.BinDiv || op == api.BinRem }

// TestBinInts: P1.3, every pair of words of 8 bits, edges of the others.
func TestBinInts(t *testing.T) {
	for _, k := range intKinds {
		words := someWords(k)
		for op := api.BinAdd; op <= api.BinGe; op++ {
			if isShift(op) {
				continue
			}
			for _, x := range words {
				for _, y := range words {
					got, e := Bin(op, k, x, y)
					if y == 0 && isDivision(op) {
						expect(t, "Bin", op, k, x, y, got, 0, e, api.ErrWordZero)
						continue
					}
					expect(t, "Bin", op, k, x, y, got, binInts(op, k, x, y), e, api.OK)
				}
			}
		}
	}
}

// TestShifts: P1.3; how far a shift goes is any word of 64 bits, whatever the kind.
func TestShifts(t *testing.T) {
	counts := []uint64{64, 65, 100, 127, 128, 200, 255, 256, 1 << 16, 1<<31 - 1, 1 << 32, 1<<32 + 1, 1 << 63, 1<<63 + 1, neg(1)}
	for y := uint64(0); y < 64; y++ {
		counts = append(counts, y)
	}
	for _, k := range intKinds {
		for _, x := range someWords(k) {
			for _, y := range counts {
				far := uint(min(y, 200))
				n := numberOf(k, x)
				got, e := Bin(api.BinShl, k, x, y)
				expect(t, "Bin", api.BinShl, k, x, y, got, wordOf(k, new(big.Int).Lsh(n, far)), e, api.OK)
				got, e = Bin(api.BinShr, k, x, y)
				expect(t, "Bin", api.BinShr, k, x, y, got, wordOf(k, new(big.Int).Rsh(n, far)), e, api.OK)
			}
		}
	}
}

// TestBinBits: P1.3, bools and pointers.
func TestBinBits(t *testing.T) {
	for x := uint64(0); x < 2; x++ {
		for y := uint64(0); y < 2; y++ {
			for op, want := range map[int]uint64{api.BinAnd: x * y, api.BinOr: max(x, y), api.BinXor: (x + y) % 2, api.BinEq: (x + y + 1) % 2, api.BinNe: (x + y) % 2} {
				got, e := Bin(op, api.KindBool, x, y)
				expect(t, "Bin", op, api.KindBool, x, y, got, want, e, api.OK)
			}
		}
	}
	pointers := append(someWords(api.KindU64), someFloats()...)
	for _, x := range pointers {
		for _, y := range pointers {
			for op, same := range map[int]uint64{api.BinEq: 1, api.BinNe: 0} {
				want := same
				if x != y {
					want = 1 - same
				}
				got, e := Bin(op, api.KindPtr, x, y)
				expect(t, "Bin", op, api.KindPtr, x, y, got, want, e, api.OK)
			}
		}
	}
}

// TestBinKinds: P1.3; which operations a kind has, and that the kind's error comes ahead of the form's and of the division's.
func TestBinKinds(t *testing.T) {
	floats := map[int]int{api.BinAdd: 1, api.BinSub: 1, api.BinMul: 1, api.BinDiv: 1, api.BinEq: 1, api.BinNe: 1, api.BinLt: 1, api.BinLe: 1, api.BinGt: 1, api.BinGe: 1}
	bools := map[int]int{api.BinAnd: 1, api.BinOr: 1, api.BinXor: 1, api.BinEq: 1, api.BinNe: 1}
	ops := []int{-1, math.MaxInt, math.MinInt}
	for op := api.BinNone; op <= api.BinGe+3; op++ {
		ops = append(ops, op)
	}
	bad := uint64(0x8123456789abcdef)
	for _, k := range append(wordKinds, noKinds...) {
		for _, op := range ops {
			has := isIntOf(k) && op >= api.BinAdd && op <= api.BinGe
			switch k {
			case api.KindF64:
				has = floats[op] == 1
			case api.KindBool:
				has = bools[op] == 1
			case api.KindPtr:
				has = op == api.BinEq || op == api.BinNe
			}
			if !has {
				for _, x := range []uint64{0, bad} {
					got, e := Bin(op, k, x, 0)
					expect(t, "Bin", op, k, x, 0, got, 0, e, api.ErrWordKind)
				}
			} else if _, e := Bin(op, k, 1, 1); e != api.OK {
				t.Errorf("Bin op %d kind %d: %d", op, k, e)
			}
		}
	}
}

// TestBinForm: P1.3; a form's error comes ahead of a division's.
func TestBinForm(t *testing.T) {
	for _, k := range intKinds {
		if widthOf(k) == 64 {
			continue
		}
		bad := uint64(1) << widthOf(k)
		for op := api.BinAdd; op <= api.BinGe; op++ {
			got, e := Bin(op, k, bad, 0)
			expect(t, "Bin", op, k, bad, 0, got, 0, e, api.ErrWordForm)
			got, e = Bin(op, k, 1, bad)
			if isShift(op) {
				expect(t, "Bin", op, k, 1, bad, got, 0, e, api.OK)
			} else {
				expect(t, "Bin", op, k, 1, bad, got, 0, e, api.ErrWordForm)
			}
		}
	}
	for _, op := range []int{api.BinAnd, api.BinOr, api.BinXor, api.BinEq, api.BinNe} {
		got, e := Bin(op, api.KindBool, 2, 0)
		expect(t, "Bin", op, api.KindBool, 2, 0, got, 0, e, api.ErrWordForm)
		got, e = Bin(op, api.KindBool, 0, neg(1))
		expect(t, "Bin", op, api.KindBool, 0, neg(1), got, 0, e, api.ErrWordForm)
	}
}
