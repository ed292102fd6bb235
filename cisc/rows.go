package cisc

import "gantry/api"

// part is what stands behind a code: a byte, or a number.
type part int

const (
	partNone part = iota
	partAB        // 16 A + B
	partAn        // 16 A + the number's size
	partCS        // 16 C + the logarithm of Scale
	partK
	partSub
	partSize // the number's size alone
	partCond // 16 (Sub - BinEq) + the number's size
	partImm  // in as many bytes as its size says
	partImm4 // in four bytes
)

// row tells the parts behind a code, and whether C64 has it.
func row(code int) ([4]part, bool) {
	switch code {
	case api.InstMovI:
		return [4]part{partAn, partImm}, true
	case api.InstMov, api.InstAlloc, api.InstEmit, api.InstExit:
		return [4]part{partAB}, true
	case api.InstBin, api.InstUn, api.InstConv:
		return [4]part{partAB, partK, partSub}, true
	case api.InstBinI:
		return [4]part{partAn, partK, partSub, partImm}, true
	case api.InstBinM:
		return [4]part{partAB, partK, partSub, partImm4}, true
	case api.InstLea:
		return [4]part{partAB, partCS, partImm4}, true
	case api.InstLoad, api.InstStore:
		return [4]part{partAB, partK, partImm4}, true
	case api.InstLoadX, api.InstStoreX:
		return [4]part{partAB, partCS, partK, partImm4}, true
	case api.InstSel, api.InstSet:
		return [4]part{partAB, partSub}, true
	case api.InstCmp:
		return [4]part{partAB, partK}, true
	case api.InstCmpI:
		return [4]part{partAn, partK, partImm}, true
	case api.InstJmp:
		return [4]part{partSize, partImm}, true
	case api.InstJcc:
		return [4]part{partCond, partImm}, true
	case api.InstCall, api.InstChk, api.InstPanic:
		return [4]part{partImm4}, true
	case api.InstRet:
		return [4]part{}, true
	}
	return [4]part{}, false
}

// The sizes of a number.
const (
	sizeOne = iota
	sizeFour
	sizeEight
)

// sizeOf is the least size that holds x.
func sizeOf(x int64) int {
	switch {
	case x == int64(int8(x)):
		return sizeOne
	case x == int64(int32(x)):
		return sizeFour
	}
	return sizeEight
}

// bytesOf is how many bytes a number of that size has.
func bytesOf(size int) int {
	switch size {
	case sizeOne:
		return 1
	case sizeFour:
		return 4
	}
	return 8
}

// noScale stands for Scale 0 where the logarithm of another one stands.
const noScale = 15
