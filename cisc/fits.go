package cisc

import (
	"gantry/api"
	"gantry/word"
)

// maxScale is the greatest Scale; read makes powers of 2 alone, or 0.
const maxScale = 8

// Registers that operations are tied to.
const (
	regDivided = 0 // what is divided, and what becomes of it
	regCount   = 1 // how far a shift goes
	regOther   = 2 // the other one of quotient and rest
)

// fits tells whether i, as it was read, is such as its row allows.
func fits(i api.Inst) bool {
	switch i.Op {
	case api.InstBin:
		return hasBin(i.Sub, i.K) && fitsTies(i)
	case api.InstBinI:
		return hasBin(i.Sub, i.K) && !isDivision(i.Sub, i.K) && fitsNumber(i.Sub, i.K, i.Imm)
	case api.InstBinM:
		return hasBin(i.Sub, i.K) && !isDivision(i.Sub, i.K) && !isShift(i.Sub)
	case api.InstUn:
		return hasUn(i.Sub, i.K) && i.B == 0
	case api.InstConv:
		return hasConv(i.Sub, i.K)
	case api.InstLea:
		return i.Scale <= maxScale && (i.Scale > 0 || i.C == 0)
	case api.InstLoad, api.InstStore, api.InstCmp:
		return isWord(i.K)
	case api.InstLoadX, api.InstStoreX:
		return isWord(i.K) && i.Scale > 0 && i.Scale <= maxScale
	case api.InstSel, api.InstJcc:
		return isCond(i.Sub)
	case api.InstCmpI:
		return fitsNumber(api.BinSub, i.K, i.Imm)
	case api.InstSet:
		return isCond(i.Sub) && i.B == 0
	case api.InstChk:
		return i.Imm >= 0
	case api.InstPanic:
		return i.Imm > 0
	case api.InstEmit, api.InstExit:
		return i.B == 0
	}
	return true
}

// fitsTies tells whether an InstBin that is tied to registers has these.
func fitsTies(i api.Inst) bool {
	switch {
	case isDivision(i.Sub, i.K):
		return i.A == regDivided && i.B != regDivided && i.B != regOther
	case isShift(i.Sub):
		return i.B == regCount && i.A != regCount
	}
	return true
}

// fitsNumber tells whether imm, of 32 bits, stands for a word of the int kind k as the second of op: the word is told back by its lowest 32 bits.
func fitsNumber(op, k int, imm int64) bool {
	if !isInt(k) {
		return false
	}
	if isShift(op) {
		k = api.KindU64
	}
	return int64(int32(word.Canon(k, uint64(imm)))) == imm
}

// hasBin asks with 0, which is a word of every kind: an error of the kind alone says that there is no such operation. So do the next two.
func hasBin(op, k int) bool {
	_, e := word.Bin(op, k, 0, 0)
	return e != api.ErrWordKind
}

func hasUn(op, k int) bool {
	_, e := word.Un(op, k, 0)
	return e != api.ErrWordKind
}

func hasConv(from, to int) bool {
	_, e := word.Conv(from, to, 0)
	return e != api.ErrWordKind
}

// isDivision: of ints alone; a float's is an operation like any other.
func isDivision(op, k int) bool { return isInt(k) && (op == api.BinDiv || op == api.BinRem) }

func isShift(op int) bool { return op == api.BinShl || op == api.BinShr }

func isCond(op int) bool { return op >= api.BinEq && op <= api.BinGe }

func isWord(k int) bool { return word.Width(k) > 0 }

func isInt(k int) bool { return k >= api.KindI8 && k <= api.KindU64 }
