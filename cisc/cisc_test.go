package cisc

import (
	"bytes"
	"math"
	"testing"

	"gantry/api"
)

// check holds Encode of i, and Decode of its bytes, against the model.
func check(t *testing.T, i api.Inst) {
	t.Helper()
	b, e := Encode(i)
	if !modelIs(i) {
		if b != nil || e != api.ErrCiscForm {
			t.Errorf("Encode(%+v): % x, %d, want ErrCiscForm", i, b, e)
		}
		return
	}
	if want := modelBytes(i); e != api.OK || !bytes.Equal(b, want) {
		t.Errorf("Encode(%+v): % x, %d, want % x", i, b, e, want)
		return
	}
	if j, n, e := Decode(b); j != i || n != len(b) || e != api.OK {
		t.Errorf("Decode(% x): %+v, %d, %d, want %+v", b, j, n, e, i)
	}
}

// example is an instruction and its bytes.
type example struct {
	i api.Inst
	b []byte
}

// examples: each code of the table, each size of its number.
func examples() []example {
	return []example{
		{api.Inst{Op: api.InstMovI, A: 3, Imm: -1}, []byte{1, 0x30, 0xff}},
		{api.Inst{Op: api.InstMovI, A: 3, Imm: 128}, []byte{1, 0x31, 0x80, 0, 0, 0}},
		{api.Inst{Op: api.InstMovI, A: 15, Imm: math.MinInt32 - 1}, []byte{1, 0xf2, 0xff, 0xff, 0xff, 0x7f, 0xff, 0xff, 0xff, 0xff}},
		{api.Inst{Op: api.InstMovI, Imm: 0x123456789abcdef0}, []byte{1, 0x02, 0xf0, 0xde, 0xbc, 0x9a, 0x78, 0x56, 0x34, 0x12}},
		{api.Inst{Op: api.InstMov, A: 7, B: 9}, []byte{3, 0x79}},
		{api.Inst{Op: api.InstBin, A: 2, B: 5, K: api.KindI64, Sub: api.BinAdd}, []byte{4, 0x25, 5, 1}},
		{api.Inst{Op: api.InstBin, A: 0, B: 1, K: api.KindI8, Sub: api.BinDiv}, []byte{4, 0x01, 2, 4}},
		{api.Inst{Op: api.InstBin, A: 15, B: 1, K: api.KindU32, Sub: api.BinShr}, []byte{4, 0xf1, 8, 10}},
		{api.Inst{Op: api.InstBin, A: 14, B: 13, K: api.KindF64, Sub: api.BinGe}, []byte{4, 0xed, 10, 16}},
		{api.Inst{Op: api.InstBinI, A: 1, K: api.KindU8, Sub: api.BinAnd, Imm: 200}, []byte{5, 0x11, 6, 6, 200, 0, 0, 0}},
		{api.Inst{Op: api.InstBinI, A: 9, K: api.KindI16, Sub: api.BinShl, Imm: -7}, []byte{5, 0x90, 3, 9, 0xf9}},
		{api.Inst{Op: api.InstBinM, A: 6, B: 15, K: api.KindF64, Sub: api.BinDiv, Imm: -24}, []byte{6, 0x6f, 10, 4, 0xe8, 0xff, 0xff, 0xff}},
		{api.Inst{Op: api.InstUn, A: 4, K: api.KindU16, Sub: api.UnCom}, []byte{7, 0x40, 7, 3}},
		{api.Inst{Op: api.InstConv, A: 6, B: 7, K: api.KindU8, Sub: api.KindF64}, []byte{8, 0x67, 6, 10}},
		{api.Inst{Op: api.InstLea, A: 1, B: 2, C: 3, Scale: 8, Imm: 16}, []byte{10, 0x12, 0x33, 16, 0, 0, 0}},
		{api.Inst{Op: api.InstLea, A: 1, B: 2, Imm: math.MinInt32}, []byte{10, 0x12, 0x0f, 0, 0, 0, 0x80}},
		{api.Inst{Op: api.InstLoad, A: 2, B: 3, K: api.KindPtr, Imm: math.MaxInt32}, []byte{11, 0x23, 11, 0xff, 0xff, 0xff, 0x7f}},
		{api.Inst{Op: api.InstLoadX, A: 1, B: 2, C: 4, Scale: 1, K: api.KindI8}, []byte{12, 0x12, 0x40, 2, 0, 0, 0, 0}},
		{api.Inst{Op: api.InstStore, A: 12, B: 15, K: api.KindBool, Imm: 8}, []byte{13, 0xcf, 1, 8, 0, 0, 0}},
		{api.Inst{Op: api.InstStoreX, A: 10, B: 11, C: 15, Scale: 4, K: api.KindF64, Imm: -1}, []byte{14, 0xab, 0xf2, 10, 0xff, 0xff, 0xff, 0xff}},
		{api.Inst{Op: api.InstSel, A: 1, B: 2, Sub: api.BinGe}, []byte{15, 0x12, 16}},
		{api.Inst{Op: api.InstCmp, A: 8, B: 0, K: api.KindBool}, []byte{16, 0x80, 1}},
		{api.Inst{Op: api.InstCmpI, A: 7, K: api.KindI32, Imm: 5}, []byte{17, 0x70, 4, 5}},
		{api.Inst{Op: api.InstCmpI, A: 7, K: api.KindU16, Imm: 40000}, []byte{17, 0x71, 7, 0x40, 0x9c, 0, 0}},
		{api.Inst{Op: api.InstSet, A: 7, Sub: api.BinEq}, []byte{18, 0x70, 11}},
		{api.Inst{Op: api.InstJmp, Imm: 3}, []byte{19, 0, 3}},
		{api.Inst{Op: api.InstJmp, Imm: -129}, []byte{19, 1, 0x7f, 0xff, 0xff, 0xff}},
		{api.Inst{Op: api.InstJcc, Sub: api.BinLt, Imm: -2}, []byte{22, 0x20, 0xfe}},
		{api.Inst{Op: api.InstJcc, Sub: api.BinGe, Imm: 300}, []byte{22, 0x51, 0x2c, 1, 0, 0}},
		{api.Inst{Op: api.InstCall, Imm: 65536}, []byte{23, 0, 0, 1, 0}},
		{api.Inst{Op: api.InstRet}, []byte{24}},
		{api.Inst{Op: api.InstChk}, []byte{25, 0, 0, 0, 0}},
		{api.Inst{Op: api.InstAlloc, A: 8, B: 10}, []byte{26, 0x8a}},
		{api.Inst{Op: api.InstEmit, A: 11}, []byte{27, 0xb0}},
		{api.Inst{Op: api.InstExit, A: 12}, []byte{28, 0xc0}},
		{api.Inst{Op: api.InstPanic, Imm: 1}, []byte{29, 1, 0, 0, 0}},
	}
}

// TestExamples: P4.1, each row of the table, byte by byte.
func TestExamples(t *testing.T) {
	seen := map[int]int{}
	for _, c := range examples() {
		seen[c.i.Op]++
		if b, e := Encode(c.i); e != api.OK || !bytes.Equal(b, c.b) {
			t.Errorf("Encode(%+v): % x, %d, want % x", c.i, b, e, c.b)
		}
		if i, n, e := Decode(c.b); i != c.i || n != len(c.b) || e != api.OK {
			t.Errorf("Decode(% x): %+v, %d, %d, want %+v", c.b, i, n, e, c.i)
		}
	}
	for _, r := range modelRows {
		for _, code := range r.codes {
			if seen[code] == 0 {
				t.Errorf("no example of the code %d", code)
			}
		}
	}
}

// odd are numbers that some byte, some width, would cut to a fitting one.
var odd = []int64{-1, 0, 1, 2, 3, 4, 8, 14, 15, 16, 17, 127, 128, 255, 256, 257, 271, 32767, 32768, 65535, 1 << 16, 1<<31 - 1, 1 << 31, 1<<32 - 1, 1 << 32, 1<<32 + 1, 1 << 56, -2, -16, -128, -129, -255, -256, -32768, -32769, -65536, -1 << 31, -1<<31 - 1, -1 << 32, math.MinInt64, math.MinInt64 + 1, math.MaxInt64}

// TestFields: P4.1; of each row every field, those that it does not name too, with numbers inside and outside.
func TestFields(t *testing.T) {
	for _, c := range examples() {
		for _, f := range fieldNames {
			for _, x := range odd {
				check(t, with(c.i, f, x))
			}
		}
	}
}

// TestPairsOfFields: P4.1; two fields of one byte, one of them too large or too small, do not make up for each other.
func TestPairsOfFields(t *testing.T) {
	for _, c := range examples() {
		for _, first := range fieldNames {
			for _, second := range fieldNames {
				for _, x := range []int64{-2, -1, 0, 1, 2, 15, 16} {
					for _, y := range []int64{-32, -16, -15, -1, 0, 16, 17, 240, 256, 512} {
						check(t, with(with(c.i, first, x), second, y))
					}
				}
			}
		}
	}
}

// TestEdges: P4.1, the bounds that the chapter names, told one by one.
func TestEdges(t *testing.T) {
	for _, c := range []struct {
		i api.Inst
		n int
	}{
		{api.Inst{Op: api.InstMovI, Imm: 127}, 3}, {api.Inst{Op: api.InstMovI, Imm: -128}, 3}, {api.Inst{Op: api.InstMovI, Imm: 128}, 6}, {api.Inst{Op: api.InstMovI, Imm: -129}, 6}, {api.Inst{Op: api.InstMovI, Imm: 1<<31 - 1}, 6}, {api.Inst{Op: api.InstMovI, Imm: -1 << 31}, 6}, {api.Inst{Op: api.InstMovI, Imm: 1 << 31}, 10}, {api.Inst{Op: api.InstMovI, Imm: -1<<31 - 1}, 10}, {api.Inst{Op: api.InstMovI, Imm: math.MaxInt64}, 10}, {api.Inst{Op: api.InstMovI, Imm: math.MinInt64}, 10}, {api.Inst{Op: api.InstMovI, A: 16}, 0}, {api.Inst{Op: api.InstMovI, A: -1}, 0}, {api.Inst{Op: api.InstMovI, B: 1}, 0},
		{api.Inst{Op: api.InstJmp, Imm: 127}, 3}, {api.Inst{Op: api.InstJmp, Imm: 128}, 6}, {api.Inst{Op: api.InstJmp, Imm: 1<<31 - 1}, 6}, {api.Inst{Op: api.InstJmp, Imm: 1 << 31}, 0}, {api.Inst{Op: api.InstJmp, Imm: -1 << 31}, 6}, {api.Inst{Op: api.InstJmp, Imm: -1<<31 - 1}, 0}, {api.Inst{Op: api.InstJmp, Label: 1}, 0}, {api.Inst{Op: api.InstJmp, Sub: api.BinEq}, 0},
		{api.Inst{Op: api.InstJcc, Sub: api.BinEq}, 3}, {api.Inst{Op: api.InstJcc, Sub: api.BinGe, Imm: 128}, 6}, {api.Inst{Op: api.InstJcc, Sub: api.BinShr}, 0}, {api.Inst{Op: api.InstJcc, Sub: api.BinGe + 1}, 0}, {api.Inst{Op: api.InstJcc, Sub: api.BinEq, Imm: 1 << 31}, 0},
		{api.Inst{Op: api.InstBin, B: 3, K: api.KindI8, Sub: api.BinDiv}, 4}, {api.Inst{Op: api.InstBin, B: 1, K: api.KindU64, Sub: api.BinRem}, 4}, {api.Inst{Op: api.InstBin, B: 0, K: api.KindI8, Sub: api.BinDiv}, 0}, {api.Inst{Op: api.InstBin, B: 2, K: api.KindI8, Sub: api.BinRem}, 0}, {api.Inst{Op: api.InstBin, A: 1, B: 3, K: api.KindI8, Sub: api.BinDiv}, 0}, {api.Inst{Op: api.InstBin, A: 2, B: 0, K: api.KindF64, Sub: api.BinDiv}, 4}, {api.Inst{Op: api.InstBin, B: 3, K: api.KindF64, Sub: api.BinRem}, 0},
		{api.Inst{Op: api.InstBin, A: 0, B: 1, K: api.KindI8, Sub: api.BinShl}, 4}, {api.Inst{Op: api.InstBin, A: 1, B: 1, K: api.KindI8, Sub: api.BinShl}, 0}, {api.Inst{Op: api.InstBin, A: 0, B: 2, K: api.KindI8, Sub: api.BinShr}, 0}, {api.Inst{Op: api.InstBin, A: 3, B: 3, K: api.KindI8, Sub: api.BinSub}, 4},
		{api.Inst{Op: api.InstBinI, K: api.KindI8, Sub: api.BinAdd, Imm: 127}, 5}, {api.Inst{Op: api.InstBinI, K: api.KindI8, Sub: api.BinAdd, Imm: 128}, 0}, {api.Inst{Op: api.InstBinI, K: api.KindI8, Sub: api.BinAdd, Imm: -128}, 5}, {api.Inst{Op: api.InstBinI, K: api.KindI8, Sub: api.BinAdd, Imm: -129}, 0}, {api.Inst{Op: api.InstBinI, K: api.KindU8, Sub: api.BinAdd, Imm: 255}, 8}, {api.Inst{Op: api.InstBinI, K: api.KindU8, Sub: api.BinAdd, Imm: 256}, 0}, {api.Inst{Op: api.InstBinI, K: api.KindU8, Sub: api.BinAdd, Imm: -1}, 0}, {api.Inst{Op: api.InstBinI, K: api.KindU16, Sub: api.BinXor, Imm: 65535}, 8}, {api.Inst{Op: api.InstBinI, K: api.KindI16, Sub: api.BinXor, Imm: 65535}, 0},
		{api.Inst{Op: api.InstBinI, K: api.KindU32, Sub: api.BinOr, Imm: -1}, 5}, {api.Inst{Op: api.InstBinI, K: api.KindU32, Sub: api.BinOr, Imm: 1<<32 - 1}, 0}, {api.Inst{Op: api.InstBinI, K: api.KindU64, Sub: api.BinOr, Imm: -1}, 5}, {api.Inst{Op: api.InstBinI, K: api.KindI64, Sub: api.BinOr, Imm: 1 << 31}, 0}, {api.Inst{Op: api.InstBinI, A: 1, K: api.KindI8, Sub: api.BinShl, Imm: 200}, 8}, {api.Inst{Op: api.InstBinI, K: api.KindU8, Sub: api.BinShr, Imm: -1}, 5}, {api.Inst{Op: api.InstBinI, K: api.KindU8, Sub: api.BinShr, Imm: 1 << 31}, 0},
		{api.Inst{Op: api.InstBinI, K: api.KindU8, Sub: api.BinDiv, Imm: 1}, 0}, {api.Inst{Op: api.InstBinI, K: api.KindU8, Sub: api.BinRem, Imm: 1}, 0}, {api.Inst{Op: api.InstBinI, K: api.KindF64, Sub: api.BinAdd}, 0}, {api.Inst{Op: api.InstBinI, K: api.KindBool, Sub: api.BinAnd}, 0}, {api.Inst{Op: api.InstBinI, K: api.KindPtr, Sub: api.BinEq}, 0}, {api.Inst{Op: api.InstBinI, K: api.KindU8, Sub: api.BinGe, Imm: 9}, 5},
		{api.Inst{Op: api.InstBinM, K: api.KindI8, Sub: api.BinDiv}, 0}, {api.Inst{Op: api.InstBinM, B: 3, K: api.KindI8, Sub: api.BinRem}, 0}, {api.Inst{Op: api.InstBinM, B: 1, K: api.KindI8, Sub: api.BinShl}, 0}, {api.Inst{Op: api.InstBinM, K: api.KindF64, Sub: api.BinDiv}, 8}, {api.Inst{Op: api.InstBinM, K: api.KindPtr, Sub: api.BinNe}, 8}, {api.Inst{Op: api.InstBinM, K: api.KindI64, Sub: api.BinAdd, Imm: 1 << 31}, 0},
		{api.Inst{Op: api.InstUn, A: 1, K: api.KindF64, Sub: api.UnNeg}, 4}, {api.Inst{Op: api.InstUn, A: 1, B: 1, K: api.KindF64, Sub: api.UnNeg}, 0}, {api.Inst{Op: api.InstSet, A: 1, B: 1, Sub: api.BinEq}, 0}, {api.Inst{Op: api.InstEmit, B: 1}, 0}, {api.Inst{Op: api.InstExit, B: 1}, 0}, {api.Inst{Op: api.InstConv, K: api.KindPtr, Sub: api.KindU64}, 0}, {api.Inst{Op: api.InstConv, K: api.KindF64, Sub: api.KindF64}, 4},
		{api.Inst{Op: api.InstLea}, 7}, {api.Inst{Op: api.InstLea, C: 1}, 0}, {api.Inst{Op: api.InstLea, C: 15, Scale: 1}, 7}, {api.Inst{Op: api.InstLea, Scale: 3}, 0}, {api.Inst{Op: api.InstLea, Scale: 8}, 7}, {api.Inst{Op: api.InstLea, Scale: 16}, 0}, {api.Inst{Op: api.InstLea, C: 16, Scale: 1}, 0}, {api.Inst{Op: api.InstLea, Scale: -1}, 0}, {api.Inst{Op: api.InstLea, Scale: math.MinInt64}, 0}, {api.Inst{Op: api.InstLea, K: api.KindPtr}, 0},
		{api.Inst{Op: api.InstLoadX, K: api.KindI8}, 0}, {api.Inst{Op: api.InstStoreX, K: api.KindI8, Scale: 2}, 8}, {api.Inst{Op: api.InstStoreX, K: api.KindMem, Scale: 2}, 0}, {api.Inst{Op: api.InstLoad, K: api.KindNone}, 0}, {api.Inst{Op: api.InstStore, K: api.KindMem}, 0}, {api.Inst{Op: api.InstLoad, K: api.KindI8, Scale: 1}, 0},
		{api.Inst{Op: api.InstCmp, K: api.KindF64}, 3}, {api.Inst{Op: api.InstCmp}, 0}, {api.Inst{Op: api.InstCmpI, K: api.KindF64}, 0}, {api.Inst{Op: api.InstCmpI, K: api.KindBool}, 0}, {api.Inst{Op: api.InstCmpI, K: api.KindU8, Imm: 255}, 7}, {api.Inst{Op: api.InstCmpI, K: api.KindU8, Imm: -1}, 0}, {api.Inst{Op: api.InstCmpI, K: api.KindI8, Imm: 1, Sub: api.BinSub}, 0},
		{api.Inst{Op: api.InstChk, Imm: -1}, 0}, {api.Inst{Op: api.InstChk}, 5}, {api.Inst{Op: api.InstChk, Imm: 1<<31 - 1}, 5}, {api.Inst{Op: api.InstPanic}, 0}, {api.Inst{Op: api.InstPanic, Imm: -1}, 0}, {api.Inst{Op: api.InstPanic, Imm: 1<<31 - 1}, 5}, {api.Inst{Op: api.InstCall, Imm: -1 << 31}, 5}, {api.Inst{Op: api.InstCall, Imm: 1 << 31}, 0}, {api.Inst{Op: api.InstRet, A: 1}, 0}, {api.Inst{Op: api.InstRet, Imm: 1}, 0}, {api.Inst{}, 0},
	} {
		b, e := Encode(c.i)
		if len(b) != c.n || c.n > 0 && e != api.OK || c.n == 0 && (e != api.ErrCiscForm || b != nil) {
			t.Errorf("Encode(%+v): % x, %d, want %d bytes", c.i, b, e, c.n)
		}
	}
}

// TestOperations: P4.1; which operations of which kinds there are, of registers that each of them may have.
func TestOperations(t *testing.T) {
	some := []int{-1, 1 << 8, 1<<8 + 1, 1 << 32, 1 << 56, math.MinInt, math.MaxInt}
	for n := range 20 {
		some = append(some, n)
	}
	for _, k := range some {
		for _, sub := range some {
			for code := api.InstNone; code <= api.InstPanic; code++ {
				check(t, api.Inst{Op: code, B: 1, K: k, Sub: sub})
				check(t, api.Inst{Op: code, A: 4, K: k, Sub: sub, Imm: 77})
				check(t, api.Inst{Op: code, A: 4, B: 3, C: 2, K: k, Scale: 2})
			}
		}
	}
}

// TestTies: P4.1; every pair of registers of every operation of two words.
func TestTies(t *testing.T) {
	for sub := api.BinNone; sub <= api.BinGe+1; sub++ {
		for k := api.KindNone; k <= api.KindMem; k++ {
			for a := -1; a <= 16; a++ {
				for b := -1; b <= 16; b++ {
					check(t, api.Inst{Op: api.InstBin, A: a, B: b, K: k, Sub: sub})
					check(t, api.Inst{Op: api.InstBinM, A: a, B: b, K: k, Sub: sub})
				}
			}
		}
	}
}

// TestNumbers: P4.1; numbers around every bound, of every operation and kind.
func TestNumbers(t *testing.T) {
	for k := api.KindNone; k <= api.KindMem; k++ {
		for bit := range 64 {
			for _, near := range []int64{-2, -1, 0, 1, 2} {
				for _, imm := range []int64{1<<bit + near, -1<<bit + near} {
					for sub := api.BinNone; sub <= api.BinGe+1; sub++ {
						check(t, api.Inst{Op: api.InstBinI, A: 1, K: k, Sub: sub, Imm: imm})
					}
					check(t, api.Inst{Op: api.InstCmpI, A: 1, K: k, Imm: imm})
					check(t, api.Inst{Op: api.InstLoad, A: 1, K: k, Imm: imm})
				}
			}
		}
	}
}

// TestCodes: P4.1; codes that C64 has not.
func TestCodes(t *testing.T) {
	codes := []int{math.MinInt, math.MaxInt, 1 << 32, 1<<32 + api.InstRet}
	for code := -300; code < 600; code++ {
		codes = append(codes, code)
	}
	for _, code := range codes {
		check(t, api.Inst{Op: code})
		check(t, api.Inst{Op: code, A: 1, Imm: 1})
		check(t, api.Inst{Op: code, A: 1, B: 2, C: 3, K: api.KindI64, Sub: api.BinEq, Scale: 1, Imm: 4})
	}
	for _, code := range []int{api.InstNone, api.InstMovH, api.InstAddI, api.InstJnz, api.InstJz, api.InstPanic + 1} {
		if b, e := Encode(api.Inst{Op: code}); b != nil || e != api.ErrCiscForm {
			t.Errorf("Encode of the code %d: % x, %d", code, b, e)
		}
		if i, n, e := Decode([]byte{byte(code)}); i != (api.Inst{}) || n != 0 || e != api.ErrCiscForm {
			t.Errorf("Decode of the code %d: %+v, %d, %d", code, i, n, e)
		}
	}
}
