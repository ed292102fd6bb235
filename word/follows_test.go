package word

import (
	"testing"

	"gantry/api"
)

func samples(k int) []uint64 {
	if k == api.KindF64 {
		return someFloats()
	}
	return someWords(k)
}

func bin(t *testing.T, op, k int, x, y uint64) uint64 {
	t.Helper()
	z, e := Bin(op, k, x, y)
	if e != api.OK {
		t.Fatalf("Bin op %d kind %d of %#x, %#x: %d", op, k, x, y, e)
	}
	return z
}

func conv(t *testing.T, from, to int, x uint64) uint64 {
	t.Helper()
	z, e := Conv(from, to, x)
	if e != api.OK {
		t.Fatalf("Conv from %d to %d of %#x: %d", from, to, x, e)
	}
	return z
}

// TestAnswersAreWords: P1.5.
func TestAnswersAreWords(t *testing.T) {
	for _, k := range wordKinds {
		for op := api.BinNone; op <= api.BinGe+1; op++ {
			of := k
			if op >= api.BinEq {
				of = api.KindBool
			}
			for _, x := range samples(k) {
				for _, y := range samples(k) {
					if z, e := Bin(op, k, x, y); e == api.OK && !Is(of, z) || e != api.OK && z != 0 {
						t.Errorf("Bin op %d kind %d of %#x, %#x: %#x, %d", op, k, x, y, z, e)
					}
				}
			}
		}
		for op := api.UnNone; op <= api.UnCom+1; op++ {
			for _, x := range samples(k) {
				if z, e := Un(op, k, x); e == api.OK && !Is(k, z) || e != api.OK && z != 0 {
					t.Errorf("Un op %d kind %d of %#x: %#x, %d", op, k, x, z, e)
				}
			}
		}
		for _, to := range wordKinds {
			for _, x := range samples(k) {
				if z, e := Conv(k, to, x); e == api.OK && !Is(to, z) || e != api.OK && z != 0 {
					t.Errorf("Conv from %d to %d of %#x: %#x, %d", k, to, x, z, e)
				}
			}
		}
	}
}

// TestAnyOrder: P1.5, sums and products.
func TestAnyOrder(t *testing.T) {
	for _, k := range append([]int{api.KindF64}, intKinds...) {
		for _, op := range []int{api.BinAdd, api.BinMul} {
			for _, x := range samples(k) {
				for _, y := range samples(k) {
					if bin(t, op, k, x, y) != bin(t, op, k, y, x) {
						t.Errorf("op %d kind %d of %#x, %#x: the order shows", op, k, x, y)
					}
				}
			}
		}
	}
}

// TestAnyGrouping: P1.5, sums and products of ints.
func TestAnyGrouping(t *testing.T) {
	for _, k := range intKinds {
		words := samples(k)
		for i := 0; i < len(words); i += 5 {
			for j := 0; j < len(words); j += 7 {
				for _, op := range []int{api.BinAdd, api.BinMul} {
					x, y, z := words[i], words[j], words[(i*31+j*17+3)%len(words)]
					if bin(t, op, k, bin(t, op, k, x, y), z) != bin(t, op, k, x, bin(t, op, k, y, z)) {
						t.Errorf("op %d kind %d of %#x, %#x, %#x: the grouping shows", op, k, x, y, z)
					}
				}
			}
		}
	}
}

// TestTurnedRound: P1.5; x before y is y behind x, and of numbers one of a comparison and its other one holds.
func TestTurnedRound(t *testing.T) {
	round := map[int]int{api.BinEq: api.BinEq, api.BinNe: api.BinNe, api.BinLt: api.BinGt, api.BinLe: api.BinGe, api.BinGt: api.BinLt, api.BinGe: api.BinLe}
	other := map[int]int{api.BinEq: api.BinNe, api.BinNe: api.BinEq, api.BinLt: api.BinGe, api.BinLe: api.BinGt, api.BinGt: api.BinLe, api.BinGe: api.BinLt}
	for _, k := range append([]int{api.KindF64}, intKinds...) {
		for op := range round {
			for _, x := range samples(k) {
				for _, y := range samples(k) {
					z := bin(t, op, k, x, y)
					if z != bin(t, round[op], k, y, x) {
						t.Errorf("op %d kind %d of %#x, %#x: not as turned round", op, k, x, y)
					}
					if k == api.KindF64 && (isNaN(x) || isNaN(y)) {
						continue
					}
					if z+bin(t, other[op], k, x, y) != 1 {
						t.Errorf("op %d kind %d of %#x, %#x: not the other one", op, k, x, y)
					}
				}
			}
		}
	}
}

// TestThereAndBack: P1.5, where the wider kind has the number.
func TestThereAndBack(t *testing.T) {
	for _, from := range intKinds {
		for _, to := range intKinds {
			wider := widthOf(to) > widthOf(from) && (signedOf(to) || !signedOf(from)) || from == to
			for _, x := range samples(from) {
				if wider && conv(t, to, from, conv(t, from, to, x)) != x {
					t.Errorf("from %d to %d and back: not %#x", from, to, x)
				}
			}
		}
		for _, x := range samples(from) {
			if widthOf(from) < 64 && conv(t, api.KindF64, from, conv(t, from, api.KindF64, x)) != x {
				t.Errorf("from %d to a float and back: not %#x", from, x)
			}
		}
	}
}
