package cisc

import (
	"math"
	"strings"

	"gantry/api"
)

// modelRow is a row of the chapter's table; a model of its own, held against the program. Parts are told as the table tells them; Imm4 is an Imm in four bytes, 'size' a byte that is the size alone, 'Subn' InstJcc's byte.
type modelRow struct {
	codes []int
	parts string
}

var modelRows = []modelRow{
	{[]int{api.InstMovI}, "An Imm"},
	{[]int{api.InstMov, api.InstAlloc}, "AB"},
	{[]int{api.InstBin}, "AB K Sub"},
	{[]int{api.InstBinI}, "An K Sub Imm"},
	{[]int{api.InstBinM}, "AB K Sub Imm4"},
	{[]int{api.InstUn}, "A0 K Sub"},
	{[]int{api.InstConv}, "AB K Sub"},
	{[]int{api.InstLea}, "AB CS Imm4"},
	{[]int{api.InstLoad, api.InstStore}, "AB K Imm4"},
	{[]int{api.InstLoadX, api.InstStoreX}, "AB CS K Imm4"},
	{[]int{api.InstSel}, "AB Sub"},
	{[]int{api.InstCmp}, "AB K"},
	{[]int{api.InstCmpI}, "An K Imm"},
	{[]int{api.InstSet}, "A0 Sub"},
	{[]int{api.InstJmp}, "size Imm"},
	{[]int{api.InstJcc}, "Subn Imm"},
	{[]int{api.InstCall, api.InstChk, api.InstPanic}, "Imm4"},
	{[]int{api.InstEmit, api.InstExit}, "A0"},
	{[]int{api.InstRet}, ""},
}

var fieldNames = []string{"A", "B", "C", "K", "Sub", "Scale", "Imm", "Label"}

func partsOf(code int) ([]string, bool) {
	for _, r := range modelRows {
		for _, c := range r.codes {
			if c == code {
				return strings.Fields(r.parts), true
			}
		}
	}
	return nil, false
}

// names tells whether parts name a field.
func names(parts []string, field string) bool {
	fields := map[string]string{"AB": "A B", "A0": "A", "An": "A", "CS": "C Scale", "K": "K", "Sub": "Sub", "Subn": "Sub", "Imm": "Imm", "Imm4": "Imm"}
	for _, p := range parts {
		for _, f := range strings.Fields(fields[p]) {
			if f == field {
				return true
			}
		}
	}
	return false
}

func get(i api.Inst, field string) int64 {
	return map[string]int64{"A": int64(i.A), "B": int64(i.B), "C": int64(i.C), "K": int64(i.K), "Sub": int64(i.Sub), "Scale": int64(i.Scale), "Imm": i.Imm, "Label": int64(i.Label)}[field]
}

func with(i api.Inst, field string, x int64) api.Inst {
	if field == "Imm" {
		i.Imm = x
		return i
	}
	*map[string]*int{"A": &i.A, "B": &i.B, "C": &i.C, "K": &i.K, "Sub": &i.Sub, "Scale": &i.Scale, "Label": &i.Label}[field] = int(x)
	return i
}

func modelWord(k int) bool { return k >= api.KindBool && k <= api.KindPtr }

func modelInt(k int) bool { return k >= api.KindI8 && k <= api.KindU64 }

func modelNumber(k int) bool { return modelInt(k) || k == api.KindF64 }

func modelCond(sub int) bool { return sub >= api.BinEq && sub <= api.BinGe }

// modelBin: which operations of two words there are, as chapter 1 lists them.
func modelBin(sub, k int) bool {
	eq := sub == api.BinEq || sub == api.BinNe
	switch k {
	case api.KindF64:
		return sub >= api.BinAdd && sub <= api.BinDiv || modelCond(sub)
	case api.KindBool:
		return eq || sub == api.BinAnd || sub == api.BinOr || sub == api.BinXor
	case api.KindPtr:
		return eq
	}
	return modelInt(k) && sub >= api.BinAdd && sub <= api.BinGe
}

func modelUn(sub, k int) bool {
	return sub == api.UnNeg && modelNumber(k) || sub == api.UnNot && k == api.KindBool || sub == api.UnCom && modelInt(k)
}

// modelImm: the numbers that an int kind's second operand may be; of kinds with 32 bits and more, and of shifts, all of 32 bits.
func modelImm(sub, k int, imm int64) bool {
	least, most := int64(math.MinInt32), int64(math.MaxInt32)
	if sub != api.BinShl && sub != api.BinShr {
		switch k {
		case api.KindI8:
			least, most = -128, 127
		case api.KindI16:
			least, most = -32768, 32767
		case api.KindU8:
			least, most = 0, 255
		case api.KindU16:
			least, most = 0, 65535
		}
	}
	return modelInt(k) && imm >= least && imm <= most
}

// modelMust is the table's last column.
func modelMust(i api.Inst) bool {
	division := modelInt(i.K) && (i.Sub == api.BinDiv || i.Sub == api.BinRem)
	shift := i.Sub == api.BinShl || i.Sub == api.BinShr
	scale := i.Scale == 1 || i.Scale == 2 || i.Scale == 4 || i.Scale == 8
	switch i.Op {
	case api.InstBin:
		return modelBin(i.Sub, i.K) && (!division || i.A == 0 && i.B != 0 && i.B != 2) && (!shift || i.B == 1 && i.A != 1)
	case api.InstBinI:
		return modelBin(i.Sub, i.K) && !division && modelImm(i.Sub, i.K, i.Imm)
	case api.InstBinM:
		return modelBin(i.Sub, i.K) && !division && !shift
	case api.InstUn:
		return modelUn(i.Sub, i.K)
	case api.InstConv:
		return modelNumber(i.Sub) && modelNumber(i.K)
	case api.InstLea:
		return scale || i.Scale == 0 && i.C == 0
	case api.InstLoad, api.InstStore, api.InstCmp:
		return modelWord(i.K)
	case api.InstLoadX, api.InstStoreX:
		return modelWord(i.K) && scale
	case api.InstSel, api.InstSet, api.InstJcc:
		return modelCond(i.Sub)
	case api.InstCmpI:
		return modelImm(api.BinSub, i.K, i.Imm)
	case api.InstChk:
		return i.Imm >= 0
	case api.InstPanic:
		return i.Imm > 0
	}
	return true
}

// modelIs tells whether i is an instruction of C64.
func modelIs(i api.Inst) bool {
	parts, ok := partsOf(i.Op)
	if !ok {
		return false
	}
	for _, f := range fieldNames {
		if !names(parts, f) && get(i, f) != 0 {
			return false
		}
	}
	for _, reg := range []int{i.A, i.B, i.C} {
		if reg < 0 || reg > 15 {
			return false
		}
	}
	if i.Op != api.InstMovI && (i.Imm < math.MinInt32 || i.Imm > math.MaxInt32) {
		return false
	}
	return modelMust(i)
}

// modelSize is the least size that holds x, and its bytes.
func modelSize(x int64) (size, n int) {
	switch {
	case x >= -128 && x <= 127:
		return 0, 1
	case x >= math.MinInt32 && x <= math.MaxInt32:
		return 1, 4
	}
	return 2, 8
}

// modelBytes are the bytes of an instruction.
func modelBytes(i api.Inst) []byte {
	size, n := modelSize(i.Imm)
	logs := map[int]int{0: 15, 1: 0, 2: 1, 4: 2, 8: 3}
	single := map[string]int{"AB": 16*i.A + i.B, "A0": 16 * i.A, "An": 16*i.A + size, "CS": 16*i.C + logs[i.Scale], "K": i.K, "Sub": i.Sub, "size": size, "Subn": 16*(i.Sub-api.BinEq) + size}
	b := []byte{byte(i.Op)}
	parts, _ := partsOf(i.Op)
	for _, p := range parts {
		if x, ok := single[p]; ok {
			b = append(b, byte(x))
			continue
		}
		if p == "Imm4" {
			n = 4
		}
		for x := uint64(i.Imm); n > 0; n-- {
			b = append(b, byte(x%256))
			x /= 256
		}
	}
	return b
}

// modelLength is how many bytes the row of b's first one has; or what ends the reading of them.
func modelLength(b []byte) (int, api.Errno) {
	if len(b) == 0 {
		return 0, api.ErrCiscShort
	}
	parts, ok := partsOf(int(b[0]))
	if !ok {
		return 0, api.ErrCiscForm
	}
	n, size := 1, 0
	for _, p := range parts {
		switch p {
		case "Imm":
			n += []int{1, 4, 8}[size]
		case "Imm4":
			n += 4
		default:
			n++
		}
		if n > len(b) {
			return 0, api.ErrCiscShort
		}
		switch p {
		case "An", "Subn":
			size = int(b[n-1]) % 16
		case "size":
			size = int(b[n-1])
		}
		if size > 2 || size == 2 && b[0] != api.InstMovI {
			return 0, api.ErrCiscForm
		}
	}
	return n, api.OK
}

// modelFields lays bytes of a row's length into the fields that it names.
func modelFields(b []byte) api.Inst {
	i := api.Inst{Op: int(b[0])}
	parts, _ := partsOf(i.Op)
	at := 1
	for _, p := range parts {
		upper, lower := int(b[at])/16, int(b[at])%16
		switch p {
		case "AB":
			i.A, i.B = upper, lower
		case "A0", "An":
			i.A = upper
		case "CS":
			i.C, i.Scale = upper, map[int]int{0: 1, 1: 2, 2: 4, 3: 8}[lower]
		case "K":
			i.K = int(b[at])
		case "Sub":
			i.Sub = int(b[at])
		case "Subn":
			i.Sub = upper + api.BinEq
		case "Imm", "Imm4":
			i.Imm = int64(int8(b[len(b)-1]))
			for n := len(b) - 2; n >= at; n-- {
				i.Imm = i.Imm*256 + int64(b[n])
			}
		}
		at++
	}
	return i
}

// modelDecode is what Decode must tell.
func modelDecode(b []byte) (api.Inst, int, api.Errno) {
	n, e := modelLength(b)
	if e != api.OK {
		return api.Inst{}, 0, e
	}
	i := modelFields(b[:n])
	if !modelIs(i) || string(modelBytes(i)) != string(b[:n]) {
		return api.Inst{}, 0, api.ErrCiscForm
	}
	return i, n, api.OK
}
