package risc

import (
	"bytes"
	"math"
	"strings"
	"testing"

	"gantry/api"
)

// row is a row of the chapter's table; a model of its own, held against the program.
type row struct {
	codes  []int
	fields string
	third  string
	number string
}

var rows = []row{
	{[]int{api.InstMovI, api.InstMovH}, "A Imm", "", "Imm"},
	{[]int{api.InstMov, api.InstAlloc}, "A B", "", ""},
	{[]int{api.InstBin}, "A B C K Sub", "C", "K Sub"},
	{[]int{api.InstUn, api.InstConv}, "A B K Sub", "", "K Sub"},
	{[]int{api.InstAddI}, "A B Imm", "", "Imm"},
	{[]int{api.InstLoad, api.InstStore}, "A B K Imm", "K", "Imm"},
	{[]int{api.InstSel}, "A B C Imm", "C", "Imm"},
	{[]int{api.InstJmp, api.InstCall, api.InstChk, api.InstPanic}, "Imm", "", "Imm"},
	{[]int{api.InstJnz, api.InstJz}, "A Imm", "", "Imm"},
	{[]int{api.InstEmit, api.InstExit}, "A", "", ""},
	{[]int{api.InstRet}, "", "", ""},
}

var fieldNames = []string{"A", "B", "C", "K", "Sub", "Scale", "Imm", "Label"}

func modelRow(code int) (row, bool) {
	for _, r := range rows {
		for _, c := range r.codes {
			if c == code {
				return r, true
			}
		}
	}
	return row{}, false
}

func (r row) names(field string) bool {
	for _, f := range strings.Fields(r.fields) {
		if f == field {
			return true
		}
	}
	return false
}

func get(i api.Inst, field string) int64 {
	return map[string]int64{"A": int64(i.A), "B": int64(i.B), "C": int64(i.C), "K": int64(i.K), "Sub": int64(i.Sub), "Scale": int64(i.Scale), "Imm": i.Imm, "Label": int64(i.Label)}[field]
}

func with(i api.Inst, field string, x int64) api.Inst {
	if field == "Imm" {
		i.Imm = x
		return i
	}
	*map[string]*int{"A": &i.A, "B": &i.B, "C": &i.C, "K": &i.K, "Sub": &i.Sub, "Scale": &i.Scale, "Label": &i.Label}[field] = int(x)
	return i
}

func isWord(k int) bool { return k >= api.KindBool && k <= api.KindPtr }

func isInt(k int) bool { return k >= api.KindI8 && k <= api.KindU64 }

func isNumber(k int) bool { return isInt(k) || k == api.KindF64 }

// modelHas: which operations there are, as chapter 1 lists them.
func modelHas(code, k, sub int) bool {
	switch code {
	case api.InstConv:
		return isNumber(k) && isNumber(sub)
	case api.InstUn:
		return sub == api.UnNeg && isNumber(k) || sub == api.UnNot && k == api.KindBool || sub == api.UnCom && isInt(k)
	}
	eq := sub == api.BinEq || sub == api.BinNe
	switch k {
	case api.KindF64:
		return sub >= api.BinAdd && sub <= api.BinDiv || sub >= api.BinEq && sub <= api.BinGe
	case api.KindBool:
		return eq || sub == api.BinAnd || sub == api.BinOr || sub == api.BinXor
	case api.KindPtr:
		return eq
	}
	return isInt(k) && sub >= api.BinAdd && sub <= api.BinGe
}

// modelIs tells whether i is an instruction of R64.
func modelIs(i api.Inst) bool {
	r, ok := modelRow(i.Op)
	if !ok {
		return false
	}
	for _, f := range fieldNames {
		if !r.names(f) && get(i, f) != 0 {
			return false
		}
	}
	for _, reg := range []int{i.A, i.B, i.C} {
		if reg < 0 || reg > 15 {
			return false
		}
	}
	if i.Imm < math.MinInt32 || i.Imm > math.MaxInt32 {
		return false
	}
	switch i.Op {
	case api.InstBin, api.InstUn, api.InstConv:
		return modelHas(i.Op, i.K, i.Sub)
	case api.InstLoad, api.InstStore:
		return isWord(i.K)
	case api.InstSel:
		return i.Imm >= 0 && i.Imm <= 15
	case api.InstChk:
		return i.Imm >= 0
	case api.InstPanic:
		return i.Imm > 0
	}
	return true
}

// modelBytes are the bytes of an instruction.
func modelBytes(i api.Inst) []byte {
	r, _ := modelRow(i.Op)
	n := uint32(i.Imm)
	if r.number == "K Sub" {
		n = uint32(i.K + 256*i.Sub)
	}
	third := byte(get(i, r.third))
	return []byte{byte(i.Op), byte(i.A), byte(i.B), third, byte(n % 256), byte(n / 256 % 256), byte(n / 65536 % 256), byte(n / 16777216)}
}

// check holds Encode of i, and Decode of its bytes, against the model.
func check(t *testing.T, i api.Inst) {
	t.Helper()
	b, e := Encode(i)
	if !modelIs(i) {
		if b != nil || e != api.ErrRiscForm {
			t.Errorf("Encode(%+v): % x, %d, want ErrRiscForm", i, b, e)
		}
		return
	}
	if want := modelBytes(i); e != api.OK || !bytes.Equal(b, want) {
		t.Errorf("Encode(%+v): % x, %d, want % x", i, b, e, want)
		return
	}
	if j, n, e := Decode(b); j != i || n != 8 || e != api.OK {
		t.Errorf("Decode(% x): %+v, %d, %d, want %+v", b, j, n, e, i)
	}
}

// example is an instruction of each code and its bytes.
type example struct {
	i api.Inst
	b []byte
}

func examples() []example {
	return []example{
		{api.Inst{Op: api.InstMovI, A: 3, Imm: 0x12345678}, []byte{1, 3, 0, 0, 0x78, 0x56, 0x34, 0x12}},
		{api.Inst{Op: api.InstMovH, A: 15, Imm: -2}, []byte{2, 15, 0, 0, 0xfe, 0xff, 0xff, 0xff}},
		{api.Inst{Op: api.InstMov, A: 7, B: 9}, []byte{3, 7, 9, 0, 0, 0, 0, 0}},
		{api.Inst{Op: api.InstBin, A: 1, B: 2, C: 3, K: api.KindI64, Sub: api.BinAdd}, []byte{4, 1, 2, 3, 5, 1, 0, 0}},
		{api.Inst{Op: api.InstBin, A: 14, B: 13, C: 12, K: api.KindF64, Sub: api.BinGe}, []byte{4, 14, 13, 12, 10, 16, 0, 0}},
		{api.Inst{Op: api.InstUn, A: 4, B: 5, K: api.KindU16, Sub: api.UnCom}, []byte{7, 4, 5, 0, 7, 3, 0, 0}},
		{api.Inst{Op: api.InstConv, A: 6, B: 7, K: api.KindU8, Sub: api.KindF64}, []byte{8, 6, 7, 0, 6, 10, 0, 0}},
		{api.Inst{Op: api.InstAddI, A: 1, B: 15, Imm: -8}, []byte{9, 1, 15, 0, 0xf8, 0xff, 0xff, 0xff}},
		{api.Inst{Op: api.InstLoad, A: 2, B: 3, K: api.KindPtr, Imm: math.MaxInt32}, []byte{11, 2, 3, 11, 0xff, 0xff, 0xff, 0x7f}},
		{api.Inst{Op: api.InstStore, A: 2, B: 3, K: api.KindBool, Imm: math.MinInt32}, []byte{13, 2, 3, 1, 0, 0, 0, 0x80}},
		{api.Inst{Op: api.InstSel, A: 1, B: 2, C: 3, Imm: 15}, []byte{15, 1, 2, 3, 15, 0, 0, 0}},
		{api.Inst{Op: api.InstJmp, Imm: -16}, []byte{19, 0, 0, 0, 0xf0, 0xff, 0xff, 0xff}},
		{api.Inst{Op: api.InstJnz, A: 5, Imm: 24}, []byte{20, 5, 0, 0, 24, 0, 0, 0}},
		{api.Inst{Op: api.InstJz, A: 6, Imm: 256}, []byte{21, 6, 0, 0, 0, 1, 0, 0}},
		{api.Inst{Op: api.InstCall, Imm: 65536}, []byte{23, 0, 0, 0, 0, 0, 1, 0}},
		{api.Inst{Op: api.InstRet}, []byte{24, 0, 0, 0, 0, 0, 0, 0}},
		{api.Inst{Op: api.InstChk}, []byte{25, 0, 0, 0, 0, 0, 0, 0}},
		{api.Inst{Op: api.InstAlloc, A: 8, B: 10}, []byte{26, 8, 10, 0, 0, 0, 0, 0}},
		{api.Inst{Op: api.InstEmit, A: 11}, []byte{27, 11, 0, 0, 0, 0, 0, 0}},
		{api.Inst{Op: api.InstExit, A: 12}, []byte{28, 12, 0, 0, 0, 0, 0, 0}},
		{api.Inst{Op: api.InstPanic, Imm: 1}, []byte{29, 0, 0, 0, 1, 0, 0, 0}},
	}
}

// TestExamples: P3.1, each row of the table, byte by byte.
func TestExamples(t *testing.T) {
	seen := map[int]int{}
	for _, c := range examples() {
		seen[c.i.Op]++
		if b, e := Encode(c.i); e != api.OK || !bytes.Equal(b, c.b) {
			t.Errorf("Encode(%+v): % x, %d, want % x", c.i, b, e, c.b)
		}
		if i, n, e := Decode(c.b); i != c.i || n != 8 || e != api.OK {
			t.Errorf("Decode(% x): %+v, %d, %d, want %+v", c.b, i, n, e, c.i)
		}
	}
	for _, r := range rows {
		for _, code := range r.codes {
			if seen[code] == 0 {
				t.Errorf("no example of the code %d", code)
			}
		}
	}
}

// odd are numbers that some byte, some width, would cut to a fitting one.
var odd = []int64{-1, 0, 1, 2, 14, 15, 16, 17, 255, 256, 257, 271, 1 << 16, 1<<31 - 1, 1 << 31, 1<<32 - 1, 1 << 32, 1<<32 + 1, 1 << 56, -16, -255, -256, -1 << 31, -1<<31 - 1, -1 << 32, math.MinInt64, math.MinInt64 + 1, math.MaxInt64}

// TestFields: P3.1; of each row every field, those that it does not name too, with numbers inside and outside.
func TestFields(t *testing.T) {
	for _, c := range examples() {
		for _, f := range fieldNames {
			for _, x := range odd {
				check(t, with(c.i, f, x))
			}
		}
	}
}

// TestEdges: P3.1, the bounds that the chapter names, told one by one.
func TestEdges(t *testing.T) {
	for _, c := range []struct {
		i  api.Inst
		ok bool
	}{
		{api.Inst{Op: api.InstChk, Imm: -1}, false}, {api.Inst{Op: api.InstChk, Imm: 0}, true}, {api.Inst{Op: api.InstChk, Imm: 1<<31 - 1}, true},
		{api.Inst{Op: api.InstPanic, Imm: -1}, false}, {api.Inst{Op: api.InstPanic, Imm: 0}, false}, {api.Inst{Op: api.InstPanic, Imm: 1}, true},
		{api.Inst{Op: api.InstSel, Imm: -1}, false}, {api.Inst{Op: api.InstSel, Imm: 0}, true}, {api.Inst{Op: api.InstSel, Imm: 15}, true}, {api.Inst{Op: api.InstSel, Imm: 16}, false},
		{api.Inst{Op: api.InstMovH, Imm: -1 << 31}, true}, {api.Inst{Op: api.InstMovH, Imm: -1<<31 - 1}, false}, {api.Inst{Op: api.InstMovH, Imm: 1<<31 - 1}, true}, {api.Inst{Op: api.InstMovH, Imm: 1 << 31}, false}, {api.Inst{Op: api.InstMovI, Imm: 1<<32 - 1}, false},
		{api.Inst{Op: api.InstMov, A: 15, B: 15}, true}, {api.Inst{Op: api.InstMov, A: 16}, false}, {api.Inst{Op: api.InstMov, B: 16}, false}, {api.Inst{Op: api.InstSel, C: 16}, false}, {api.Inst{Op: api.InstSel, C: -1}, false},
		{api.Inst{Op: api.InstBin, K: api.KindI8, Sub: api.BinDiv}, true}, {api.Inst{Op: api.InstBin, K: api.KindU64, Sub: api.BinRem}, true}, {api.Inst{Op: api.InstBin, K: api.KindF64, Sub: api.BinRem}, false}, {api.Inst{Op: api.InstBin, K: api.KindPtr, Sub: api.BinLt}, false},
		{api.Inst{Op: api.InstConv, K: api.KindI8, Sub: api.KindI8}, true}, {api.Inst{Op: api.InstConv, K: api.KindPtr, Sub: api.KindU64}, false}, {api.Inst{Op: api.InstConv, K: api.KindU64, Sub: api.KindPtr}, false},
		{api.Inst{Op: api.InstLoad, K: api.KindNone}, false}, {api.Inst{Op: api.InstStore, K: api.KindMem}, false}, {api.Inst{Op: api.InstRet, Imm: 1}, false}, {api.Inst{Op: api.InstRet, A: 1}, false}, {api.Inst{}, false},
	} {
		b, e := Encode(c.i)
		if c.ok && (e != api.OK || len(b) != 8) || !c.ok && (e != api.ErrRiscForm || b != nil) {
			t.Errorf("Encode(%+v): % x, %d", c.i, b, e)
		}
	}
}

// TestOperations: P3.1; which operations of which kinds there are.
func TestOperations(t *testing.T) {
	some := []int{-1, 1 << 8, 1<<8 + 1, 1 << 32, 1 << 56, math.MinInt, math.MaxInt}
	for n := range 20 {
		some = append(some, n)
	}
	for _, code := range []int{api.InstBin, api.InstUn, api.InstConv, api.InstLoad, api.InstStore} {
		for _, k := range some {
			for _, sub := range some {
				check(t, api.Inst{Op: code, A: 1, B: 2, K: k, Sub: sub})
			}
		}
	}
}

// TestCodes: P3.1; codes that R64 has not.
func TestCodes(t *testing.T) {
	codes := []int{math.MinInt, math.MaxInt, 1 << 32, 1<<32 + api.InstRet}
	for code := -300; code < 600; code++ {
		codes = append(codes, code)
	}
	for _, code := range codes {
		check(t, api.Inst{Op: code})
		check(t, api.Inst{Op: code, A: 1, Imm: 1})
		check(t, api.Inst{Op: code, A: 1, B: 2, C: 3, K: api.KindI64, Sub: api.BinEq, Scale: 1, Imm: 4})
	}
	for _, code := range []int{api.InstBinI, api.InstBinM, api.InstLea, api.InstLoadX, api.InstStoreX, api.InstCmp, api.InstCmpI, api.InstSet, api.InstJcc} {
		if _, e := Encode(api.Inst{Op: code}); e != api.ErrRiscForm {
			t.Errorf("Encode of C64's code %d: %d", code, e)
		}
	}
}
