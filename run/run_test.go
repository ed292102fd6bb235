package run

import (
	"math"
	"testing"

	"gantry/api"
	"gantry/cisc"
	"gantry/risc"
)

const top = math.MaxUint64

var targets = []int{api.TargetR, api.TargetC}

func encodeOf(target int) func(api.Inst) ([]byte, api.Errno) {
	if target == api.TargetC {
		return cisc.Encode
	}
	return risc.Encode
}

func codeOf(t *testing.T, target int, l []api.Inst) []byte {
	t.Helper()
	var code []byte
	for _, i := range l {
		b, e := encodeOf(target)(i)
		if e != api.OK {
			t.Fatalf("target %d has no %+v", target, i)
		}
		code = append(code, b...)
	}
	return code
}

func imageOf(t *testing.T, target int, l ...api.Inst) api.Image {
	t.Helper()
	return api.Image{Target: target, Code: codeOf(t, target, l)}
}

func begin(t *testing.T, img api.Image, memory int, args ...uint64) *Machine {
	t.Helper()
	m, e := New(img, memory, args)
	if e != api.OK || m == nil {
		t.Fatalf("New: %v, %d", m, e)
	}
	return m
}

// row is a program of one target, or of both, and what a register holds behind its last instruction. Data stands at 4096: 01 82 83 84 85 86 87 88 99.
type row struct {
	on   []int
	args []uint64
	l    []api.Inst
	reg  int
	want uint64
}

var someData = []byte{0x01, 0x82, 0x83, 0x84, 0x85, 0x86, 0x87, 0x88, 0x99}

func checkRows(t *testing.T, rows []row) {
	t.Helper()
	for n, c := range rows {
		for _, target := range c.on {
			img := imageOf(t, target, c.l...)
			img.Data = someData
			m := begin(t, img, 12288, c.args...)
			for range c.l {
				if !m.Step() {
					end, number := m.Ended()
					t.Errorf("row %d on %d has ended: %d, %d", n, target, end, number)
				}
			}
			if x := m.Reg(c.reg); x != c.want {
				t.Errorf("row %d on %d: the register %d is %x, want %x", n, target, c.reg, x, c.want)
			}
			if end, number := m.Ended(); end != api.EndNone || number != 0 {
				t.Errorf("row %d on %d: Ended is %d, %d", n, target, end, number)
			}
			if m.Step() {
				t.Errorf("row %d on %d goes on behind its code", n, target)
			}
		}
	}
}

func args(l ...uint64) []uint64 { return l }

func insts(l ...api.Inst) []api.Inst { return l }

// TestMoves: P5.1; InstMovI, InstMov, InstMovH.
func TestMoves(t *testing.T) {
	r, c := []int{api.TargetR}, []int{api.TargetC}
	checkRows(t, []row{
		{targets, nil, insts(api.Inst{Op: api.InstMovI, A: 3, Imm: 7}), 3, 7},
		{targets, nil, insts(api.Inst{Op: api.InstMovI, A: 14, Imm: -2}), 14, top - 1},
		{targets, args(9), insts(api.Inst{Op: api.InstMovI, A: 0, Imm: math.MinInt32}), 0, 0xffffffff80000000},
		{c, nil, insts(api.Inst{Op: api.InstMovI, A: 0, Imm: 0x123456789abcdef0}), 0, 0x123456789abcdef0},
		{c, nil, insts(api.Inst{Op: api.InstMovI, A: 0, Imm: math.MinInt64}), 0, 1 << 63},
		{targets, args(5, 0x8877665544332211), insts(api.Inst{Op: api.InstMov, A: 9, B: 1}), 9, 0x8877665544332211},
		{targets, args(5, 6), insts(api.Inst{Op: api.InstMov, A: 0, B: 1}), 1, 6},
		{targets, args(5, 6), insts(api.Inst{Op: api.InstMov, A: 15, B: 1}), 15, 6},
		{targets, nil, insts(api.Inst{Op: api.InstMov, A: 4, B: 15}), 4, 12288},
		{r, args(0x1122334455667788), insts(api.Inst{Op: api.InstMovH, A: 0, Imm: 5}), 0, 0x555667788},
		{r, args(0x1122334495667788), insts(api.Inst{Op: api.InstMovH, A: 0, Imm: -2}), 0, 0xfffffffe95667788},
		{r, args(top), insts(api.Inst{Op: api.InstMovH, A: 0, Imm: 0}), 0, 0xffffffff},
		{r, nil, insts(api.Inst{Op: api.InstMovI, A: 2, Imm: -1}, api.Inst{Op: api.InstMovH, A: 2, Imm: math.MinInt32}), 2, 0x80000000ffffffff},
	})
}

// TestBin: P5.1; InstBin on each target; words are Canon of the kind that is asked.
func TestBin(t *testing.T) {
	r, c := []int{api.TargetR}, []int{api.TargetC}
	three := func(sub, k int) []api.Inst {
		return insts(api.Inst{Op: api.InstBin, A: 2, B: 3, C: 4, K: k, Sub: sub})
	}
	two := func(a, b, sub, k int) []api.Inst {
		return insts(api.Inst{Op: api.InstBin, A: a, B: b, K: k, Sub: sub})
	}
	checkRows(t, []row{
		{r, args(0, 0, 0, 300, 7), three(api.BinAdd, api.KindU8), 2, 51},
		{r, args(0, 0, 0, 0x8000, 1), three(api.BinSub, api.KindI16), 2, 0x7fff},
		{r, args(0, 0, 0, 10, 3), three(api.BinSub, api.KindI64), 2, 7},
		{r, args(0, 0, 0, 10, 3), three(api.BinSub, api.KindI64), 3, 10},
		{r, args(0, 0, 77, 10, 3), three(api.BinDiv, api.KindI64), 2, 3},
		{r, args(0, 0, 77, 10, 3), three(api.BinRem, api.KindI64), 2, 1},
		{r, args(0, 0, 77, 0x1f9, 0xff02), three(api.BinRem, api.KindI8), 2, top},
		{r, args(0, 0, 0, 0xff81, 0x10000000000001ff), three(api.BinShr, api.KindI8), 2, top},
		{r, args(0, 0, 0, 0x1ff, 0x100), three(api.BinShl, api.KindU8), 2, 0},
		{r, args(0, 0, 0, 0x1ff, 4), three(api.BinShl, api.KindI8), 2, top - 15},
		{r, args(0, 0, 0, 2, 3), three(api.BinAnd, api.KindBool), 2, 0},
		{r, args(0, 0, 0, 0x4000000000000000, 0x3ff0000000000000), three(api.BinDiv, api.KindF64), 2, 0x4000000000000000},
		{r, args(0, 0, 0, 0x1ff, 1), three(api.BinLt, api.KindI8), 2, 1},
		{r, args(0, 0, 0, 0x1ff, 1), three(api.BinLt, api.KindU8), 2, 0},
		{r, args(0, 0, 0, 1<<40, 1<<41), three(api.BinEq, api.KindPtr), 2, 0},
		{r, args(0, 0, 0, 1<<40, 1<<41), three(api.BinEq, api.KindU32), 2, 1},
		{c, args(10, 3), two(0, 1, api.BinSub, api.KindI64), 0, 7},
		{c, args(10, 3), two(1, 0, api.BinSub, api.KindI64), 1, top - 6},
		{c, args(0x1ff, 0x102), two(0, 1, api.BinAdd, api.KindU8), 0, 1},
		{c, args(0xfe7f, 0xf001), two(0, 1, api.BinAdd, api.KindI8), 0, top - 127},
		{c, args(100, 7, 55), two(0, 1, api.BinDiv, api.KindI64), 0, 14},
		{c, args(100, 7, 55), two(0, 1, api.BinDiv, api.KindI64), 2, 2},
		{c, args(100, 7, 55), two(0, 1, api.BinRem, api.KindI64), 0, 2},
		{c, args(100, 7, 55), two(0, 1, api.BinRem, api.KindI64), 2, 14},
		{c, args(0x80, 0xff), two(0, 1, api.BinDiv, api.KindI8), 0, top - 127},
		{c, args(0x80, 0xff), two(0, 1, api.BinDiv, api.KindI8), 2, 0},
		{c, args(0x1f9, 0, 0, 0xff02), two(0, 3, api.BinRem, api.KindI8), 0, top},
		{c, args(0x1f9, 0, 0, 0xff02), two(0, 3, api.BinRem, api.KindI8), 2, top - 2},
		{c, args(0x1f9, 0, 0, 0xff02), two(0, 3, api.BinRem, api.KindI8), 3, 0xff02},
		{c, args(0x4008000000000000, 0x4000000000000000, 55), two(0, 1, api.BinDiv, api.KindF64), 0, 0x3ff8000000000000},
		{c, args(0x4008000000000000, 0x4000000000000000, 55), two(0, 1, api.BinDiv, api.KindF64), 2, 55},
		{c, args(0x4008000000000000, 0, 0, 0, 0x4000000000000000), two(4, 0, api.BinDiv, api.KindF64), 4, 0x3fe5555555555555},
		{c, args(0, 0x100000001, 0, 0xff81), two(3, 1, api.BinShr, api.KindI8), 3, top},
		{c, args(0, 1, 0, 0xff81), two(3, 1, api.BinShr, api.KindI8), 3, top - 63},
		{c, args(0, 8, 0, 0xff81), two(3, 1, api.BinShl, api.KindU16), 3, 0x8100},
		{c, args(5, 5), two(0, 1, api.BinEq, api.KindPtr), 0, 1},
	})
}

// TestBinOthers: P5.1; InstBinI, InstBinM: y is Canon of Imm, of a shift of KindU64; the word at B + Imm.
func TestBinOthers(t *testing.T) {
	c := []int{api.TargetC}
	imm := func(sub, k int, n int64) []api.Inst {
		return insts(api.Inst{Op: api.InstBinI, A: 1, K: k, Sub: sub, Imm: n})
	}
	at := func(sub, k int, n int64) []api.Inst {
		return insts(api.Inst{Op: api.InstBinM, A: 1, B: 4, K: k, Sub: sub, Imm: n})
	}
	checkRows(t, []row{
		{c, args(0, 200), imm(api.BinAdd, api.KindU8, 100), 1, 44},
		{c, args(0, 0x101), imm(api.BinSub, api.KindU8, 2), 1, 255},
		{c, args(0, 5), imm(api.BinSub, api.KindI64, -3), 1, 8},
		{c, args(0, 5), imm(api.BinXor, api.KindI32, -1), 1, top - 5},
		{c, args(0, 5), imm(api.BinAdd, api.KindU64, -1), 1, 4},
		{c, args(0, 3), imm(api.BinShl, api.KindI8, 6), 1, top - 63},
		{c, args(0, 0x80), imm(api.BinShr, api.KindI8, 300), 1, top},
		{c, args(0, 0x80), imm(api.BinShr, api.KindI8, -1), 1, top},
		{c, args(0, 0x7f), imm(api.BinShr, api.KindU8, -1), 1, 0},
		{c, args(0, 3), imm(api.BinLt, api.KindI16, 4), 1, 1},
		{c, args(0, 1, 0, 0, 4096), at(api.BinAdd, api.KindU8, 1), 1, 0x83},
		{c, args(0, 1, 0, 0, 4096), at(api.BinAdd, api.KindI8, 1), 1, top - 0x7c},
		{c, args(0, 0x10000, 0, 0, 4100), at(api.BinSub, api.KindU16, -2), 1, 0x7b7d},
		{c, args(0, 0, 0, 0, 4096), at(api.BinOr, api.KindI64, 0), 1, 0x8887868584838201},
		{c, args(0, 3, 0, 0, 4096), at(api.BinAnd, api.KindBool, 2), 1, 1},
		{c, args(0, 0x8887868584838201, 0, 0, 0), at(api.BinEq, api.KindPtr, 4096), 1, 1},
		{c, args(0, 0x4000000000000000, 0, 0, 4097), at(api.BinMul, api.KindF64, 999), 1, 0},
		{c, args(0, 7, 0, 0, top), at(api.BinAdd, api.KindU8, 4097), 1, 8},
	})
}

// TestUnConv: P5.1; InstUn of B on R64, of A on C64; InstConv of B, from Sub to K.
func TestUnConv(t *testing.T) {
	r, c := []int{api.TargetR}, []int{api.TargetC}
	checkRows(t, []row{
		{r, args(0, 5, 0x181), insts(api.Inst{Op: api.InstUn, A: 1, B: 2, K: api.KindI8, Sub: api.UnNeg}), 1, 127},
		{r, args(0, 5, 0x181), insts(api.Inst{Op: api.InstUn, A: 1, B: 2, K: api.KindI8, Sub: api.UnNeg}), 2, 0x181},
		{r, args(2), insts(api.Inst{Op: api.InstUn, A: 1, B: 0, K: api.KindBool, Sub: api.UnNot}), 1, 1},
		{r, args(0xff0f), insts(api.Inst{Op: api.InstUn, A: 1, B: 0, K: api.KindU8, Sub: api.UnCom}), 1, 0xf0},
		{c, args(5, 0x181), insts(api.Inst{Op: api.InstUn, A: 1, K: api.KindI8, Sub: api.UnNeg}), 1, 127},
		{c, args(5, 3), insts(api.Inst{Op: api.InstUn, A: 1, K: api.KindBool, Sub: api.UnNot}), 1, 0},
		{c, args(5, 0), insts(api.Inst{Op: api.InstUn, A: 1, K: api.KindF64, Sub: api.UnNeg}), 1, 1 << 63},
		{targets, args(5, 0x1fe), insts(api.Inst{Op: api.InstConv, A: 3, B: 1, K: api.KindU32, Sub: api.KindI8}), 3, 0xfffffffe},
		{targets, args(5, 0x1fe), insts(api.Inst{Op: api.InstConv, A: 3, B: 1, K: api.KindI64, Sub: api.KindU8}), 3, 0xfe},
		{targets, args(5, 0x1d4), insts(api.Inst{Op: api.InstConv, A: 3, B: 1, K: api.KindF64, Sub: api.KindU8}), 3, 0x406a800000000000},
		{targets, args(5, 0x4072cb3333333333), insts(api.Inst{Op: api.InstConv, A: 3, B: 1, K: api.KindI8, Sub: api.KindF64}), 3, 44},
		{targets, args(5, 0x4072cb3333333333), insts(api.Inst{Op: api.InstConv, A: 3, B: 1, K: api.KindI8, Sub: api.KindF64}), 1, 0x4072cb3333333333},
	})
}

// TestAddresses: P5.1; InstAddI, InstLea: modulo 2^64.
func TestAddresses(t *testing.T) {
	r, c := []int{api.TargetR}, []int{api.TargetC}
	lea := func(scale int, n int64) []api.Inst {
		i := api.Inst{Op: api.InstLea, A: 0, B: 1, C: 2, Scale: scale, Imm: n}
		if scale == 0 {
			i.C = 0
		}
		return insts(i)
	}
	checkRows(t, []row{
		{r, args(0, 5), insts(api.Inst{Op: api.InstAddI, A: 0, B: 1, Imm: -8}), 0, top - 2},
		{r, args(0, top), insts(api.Inst{Op: api.InstAddI, A: 0, B: 1, Imm: 3}), 0, 2},
		{r, nil, insts(api.Inst{Op: api.InstAddI, A: 15, B: 15, Imm: -16}), 15, 12272},
		{c, args(99, 1000, 3), lea(0, -1), 0, 999},
		{c, args(99, 1000, 3), lea(1, 20), 0, 1023},
		{c, args(99, 1000, 3), lea(2, 0), 0, 1006},
		{c, args(99, 1000, 3), lea(4, 20), 0, 1032},
		{c, args(99, 1000, 3), lea(8, -2000), 0, top - 975},
		{c, args(99, 10, 1<<61+1), lea(8, 1), 0, 19},
		{c, args(99, 10, top), lea(4, 1), 0, 7},
	})
}

// TestLoads: P5.1; InstLoad, InstLoadX: the word of K there.
func TestLoads(t *testing.T) {
	c := []int{api.TargetC}
	load := func(k int, n int64) []api.Inst {
		return insts(api.Inst{Op: api.InstLoad, A: 0, B: 1, K: k, Imm: n})
	}
	loadX := func(k, scale int, n int64) []api.Inst {
		return insts(api.Inst{Op: api.InstLoadX, A: 0, B: 1, C: 2, Scale: scale, K: k, Imm: n})
	}
	checkRows(t, []row{
		{targets, args(7, 4096), load(api.KindU8, 1), 0, 0x82},
		{targets, args(7, 4096), load(api.KindI8, 1), 0, top - 0x7d},
		{targets, args(7, 4096), load(api.KindBool, 1), 0, 0},
		{targets, args(7, 4096), load(api.KindBool, 2), 0, 1},
		{targets, args(7, 5000), load(api.KindU16, -903), 0, 0x8382},
		{targets, args(7, 4096), load(api.KindI16, 0), 0, 0xffffffffffff8201},
		{targets, args(7, 0), load(api.KindI32, 4096), 0, 0xffffffff84838201},
		{targets, args(7, top), load(api.KindU32, 4098), 0, 0x85848382},
		{targets, args(7, 4096), load(api.KindPtr, 1), 0, 0x9988878685848382},
		{targets, args(7, 4096), load(api.KindF64, 0), 0, 0x8887868584838201},
		{targets, args(7, 12284), load(api.KindU64, -4), 0, 0},
		{targets, args(7, 12288), load(api.KindU8, -1), 0, 0},
		{c, args(7, 4096, 3), loadX(api.KindU8, 1, 0), 0, 0x84},
		{c, args(7, 4096, 3), loadX(api.KindU8, 2, 0), 0, 0x87},
		{c, args(7, 4096, 1), loadX(api.KindU16, 4, 1), 0, 0x8786},
		{c, args(7, 4096, 1), loadX(api.KindI8, 8, 0), 0, top - 0x66},
		{c, args(7, 4096, top), loadX(api.KindU8, 4, 5), 0, 0x82},
	})
}

// TestStores: P5.1; InstStore, InstStoreX: there stands Canon(K, A), and nothing beside it changes.
func TestStores(t *testing.T) {
	c := []int{api.TargetC}
	back := api.Inst{Op: api.InstLoad, A: 4, B: 3, K: api.KindU64}
	store := func(k int, n int64) []api.Inst {
		return insts(api.Inst{Op: api.InstStore, A: 0, B: 1, K: k, Imm: n}, back)
	}
	storeX := func(k, scale int, n int64) []api.Inst {
		return insts(api.Inst{Op: api.InstStoreX, A: 0, B: 1, C: 2, Scale: scale, K: k, Imm: n}, back)
	}
	const x = 0x1122334455667788
	checkRows(t, []row{
		{targets, args(x, 4096, 0, 4096), store(api.KindU8, 1), 4, 0x8887868584838801},
		{targets, args(x, 4098, 0, 4096), store(api.KindI8, -1), 4, 0x8887868584838801},
		{targets, args(x+1, 4096, 0, 4096), store(api.KindBool, 2), 4, 0x8887868584018201},
		{targets, args(x, 4096, 0, 4096), store(api.KindBool, 2), 4, 0x8887868584008201},
		{targets, args(x, 4096, 0, 4096), store(api.KindI16, 3), 4, 0x8887867788838201},
		{targets, args(x, 4096, 0, 4096), store(api.KindU32, 4), 4, 0x5566778884838201},
		{targets, args(x, 4096, 0, 4096), store(api.KindI64, 0), 4, x},
		{targets, args(x, 4096, 0, 4096), store(api.KindF64, 1), 4, 0x2233445566778801},
		{targets, args(x, 12288, 0, 12280), store(api.KindPtr, -8), 4, x},
		{targets, args(x, 4096, 0, 4096), store(api.KindI64, 0), 0, x},
		{c, args(x, 4096, 3, 4096), storeX(api.KindU8, 1, 0), 4, 0x8887868588838201},
		{c, args(x, 4096, 3, 4096), storeX(api.KindU16, 2, 0), 4, 0x7788868584838201},
		{c, args(x, 4096, 1, 4096), storeX(api.KindU32, 4, -1), 4, 0x8855667788838201},
		{c, args(x, 4096, top, 4096), storeX(api.KindBool, 8, 9), 4, 0x8887868584830001},
		{c, args(x, 4096, 3, 4104), storeX(api.KindPtr, 8, -16), 4, x},
	})
}

// TestSelectsAndFlags: P5.1; InstSel on each target, InstCmp, InstCmpI, InstSet.
func TestSelectsAndFlags(t *testing.T) {
	r, c := []int{api.TargetR}, []int{api.TargetC}
	sel := insts(api.Inst{Op: api.InstSel, A: 0, B: 1, C: 2, Imm: 3})
	cmp := func(k, sub int) []api.Inst {
		return insts(api.Inst{Op: api.InstCmp, A: 0, B: 1, K: k}, api.Inst{Op: api.InstSet, A: 2, Sub: sub})
	}
	cmpI := func(k, sub int, n int64) []api.Inst {
		return insts(api.Inst{Op: api.InstCmpI, A: 0, K: k, Imm: n}, api.Inst{Op: api.InstSet, A: 2, Sub: sub})
	}
	choose := func(k, sub int) []api.Inst {
		return insts(api.Inst{Op: api.InstCmp, A: 0, B: 1, K: k}, api.Inst{Op: api.InstSel, A: 2, B: 3, Sub: sub})
	}
	late := insts(api.Inst{Op: api.InstCmp, A: 0, B: 1, K: api.KindI64}, api.Inst{Op: api.InstMovI, A: 0, Imm: 9}, api.Inst{Op: api.InstBinI, A: 1, K: api.KindI64, Sub: api.BinSub, Imm: 100}, api.Inst{Op: api.InstSet, A: 2, Sub: api.BinLt}, api.Inst{Op: api.InstSet, A: 3, Sub: api.BinGe})
	twice := insts(api.Inst{Op: api.InstCmp, A: 0, B: 1, K: api.KindI64}, api.Inst{Op: api.InstCmpI, A: 0, K: api.KindU8, Imm: 1}, api.Inst{Op: api.InstSet, A: 2, Sub: api.BinEq})
	nan := uint64(0x7ff8000000000000)
	checkRows(t, []row{
		{r, args(1, 1<<63, 30, 40), sel, 0, 30}, {r, args(1, 0, 30, 40), sel, 0, 40}, {r, args(1, 256, 30, 40), sel, 0, 30}, {r, args(1, 2, 30, 40), sel, 2, 30},
		{r, args(7, 0), insts(api.Inst{Op: api.InstSel, A: 1, B: 1, C: 1, Imm: 0}), 1, 7},
		{c, args(0x1fb, 3, 77), cmp(api.KindI8, api.BinLt), 2, 1}, {c, args(0x1fb, 3, 77), cmp(api.KindU8, api.BinLt), 2, 0}, {c, args(0x1fb, 3, 77), cmp(api.KindI64, api.BinGt), 2, 1},
		{c, args(0x103, 3, 77), cmp(api.KindI8, api.BinEq), 2, 1}, {c, args(0x103, 3, 77), cmp(api.KindI16, api.BinEq), 2, 0}, {c, args(3, 3, 77), cmp(api.KindPtr, api.BinNe), 2, 0}, {c, args(3, 1, 77), cmp(api.KindBool, api.BinEq), 2, 1},
		{c, args(3, 3, 77), cmp(api.KindU16, api.BinLe), 2, 1}, {c, args(3, 3, 77), cmp(api.KindU16, api.BinGe), 2, 1}, {c, args(3, 3, 77), cmp(api.KindU16, api.BinGt), 2, 0},
		{c, args(nan, nan, 77), cmp(api.KindF64, api.BinNe), 2, 1}, {c, args(nan, nan, 77), cmp(api.KindF64, api.BinGe), 2, 0}, {c, args(0, 1<<63, 77), cmp(api.KindF64, api.BinEq), 2, 1},
		{c, args(top, 0, 77), cmpI(api.KindI64, api.BinEq, -1), 2, 1}, {c, args(0x1ff, 0, 77), cmpI(api.KindI8, api.BinEq, -1), 2, 1}, {c, args(4, 0, 77), cmpI(api.KindI8, api.BinGt, -1), 2, 1}, {c, args(4, 0, 77), cmpI(api.KindU64, api.BinGt, -1), 2, 0}, {c, args(0x104, 0, 77), cmpI(api.KindU8, api.BinLt, 5), 2, 1},
		{c, args(1, 2, 77, 88), choose(api.KindI64, api.BinLt), 2, 88}, {c, args(1, 2, 77, 88), choose(api.KindI64, api.BinGe), 2, 77}, {c, args(1, 2, 77, 88), choose(api.KindI64, api.BinLt), 3, 88},
		{c, args(1, 2, 77, 88), late, 2, 1}, {c, args(1, 2, 77, 88), late, 3, 0}, {c, args(1, 2, 77), twice, 2, 1},
		{c, args(1, 2, 77), cmp(api.KindI64, api.BinLt), 0, 1}, {c, args(1, 2, 77), cmp(api.KindI64, api.BinLt), 1, 2},
	})
}

// jumpRow is a program that ends by InstPanic with a number that tells the way it went.
type jumpRow struct {
	on   []int
	args []uint64
	l    []api.Inst
	want int64
}

// TestJumps: P5.1; each jump, forth and back, gone and not.
func TestJumps(t *testing.T) {
	r, c := []int{api.TargetR}, []int{api.TargetC}
	end := func(n int64) api.Inst { return api.Inst{Op: api.InstPanic, Imm: n} }
	on := func(j api.Inst) []api.Inst { return insts(j, end(1), end(2)) }
	when := func(cmp, sub int, n int64) []api.Inst {
		return insts(api.Inst{Op: api.InstCmp, A: 0, B: 1, K: cmp}, api.Inst{Op: api.InstJcc, Sub: sub, Imm: n}, end(1), end(2))
	}
	for n, x := range []jumpRow{
		{r, nil, on(api.Inst{Op: api.InstJmp, Imm: 8}), 2}, {r, nil, on(api.Inst{Op: api.InstJmp, Imm: 0}), 1}, {c, nil, on(api.Inst{Op: api.InstJmp, Imm: 5}), 2}, {c, nil, on(api.Inst{Op: api.InstJmp, Imm: 0}), 1},
		{r, args(0, 1), on(api.Inst{Op: api.InstJnz, A: 1, Imm: 8}), 2}, {r, args(0, 1), on(api.Inst{Op: api.InstJnz, A: 0, Imm: 8}), 1}, {r, args(0, 1<<63), on(api.Inst{Op: api.InstJnz, A: 1, Imm: 8}), 2},
		{r, args(0, 1), on(api.Inst{Op: api.InstJz, A: 1, Imm: 8}), 1}, {r, args(0, 1), on(api.Inst{Op: api.InstJz, A: 0, Imm: 8}), 2}, {r, args(0, 256), on(api.Inst{Op: api.InstJz, A: 1, Imm: 8}), 1},
		{c, args(0x1ff, 0), when(api.KindI8, api.BinLt, 5), 2}, {c, args(0x1ff, 0), when(api.KindU8, api.BinLt, 5), 1}, {c, args(6, 6), when(api.KindU8, api.BinEq, 5), 2}, {c, args(6, 6), when(api.KindU8, api.BinNe, 5), 1},
		{r, nil, insts(api.Inst{Op: api.InstJmp, Imm: 8}, end(1), api.Inst{Op: api.InstJmp, Imm: -16}), 1}, {c, nil, insts(api.Inst{Op: api.InstJmp, Imm: 5}, end(1), api.Inst{Op: api.InstJmp, Imm: -8}), 1},
	} {
		for _, target := range x.on {
			m := begin(t, imageOf(t, target, x.l...), 8192, x.args...)
			for range x.l {
				m.Step()
			}
			if end, number := m.Ended(); end != api.EndPanic || number != x.want {
				t.Errorf("%d on %d: %d, %d, want EndPanic %d", n, target, end, number, x.want)
			}
		}
	}
}
