package risc

import (
	"gantry/api"
	"gantry/word"
)

// form is an instruction's 8 bytes, taken apart; its fields are wide, so that what does not fit is still to be seen.
type form struct {
	code, a, b, c int
	number        int64
}

func formOf(b []byte) form {
	number := uint32(b[4]) | uint32(b[5])<<8 | uint32(b[6])<<16 | uint32(b[7])<<24
	return form{int(b[0]), int(b[1]), int(b[2]), int(b[3]), int64(int32(number))}
}

func (f form) bytes() []byte {
	n := f.number
	return []byte{byte(f.code), byte(f.a), byte(f.b), byte(f.c), byte(n), byte(n >> 8), byte(n >> 16), byte(n >> 24)}
}

// fits tells whether the number has its 32 bits; the bytes are as small as fits(i) asks.
func (f form) fits() bool { return f.number == int64(int32(f.number)) }

// pack lays down what i's row names; of what is no code of R64, nothing.
func pack(i api.Inst) form {
	switch i.Op {
	case api.InstMovI, api.InstMovH, api.InstJnz, api.InstJz:
		return form{code: i.Op, a: i.A, number: i.Imm}
	case api.InstMov, api.InstAlloc:
		return form{code: i.Op, a: i.A, b: i.B}
	case api.InstBin:
		return form{i.Op, i.A, i.B, i.C, join(i.K, i.Sub)}
	case api.InstUn, api.InstConv:
		return form{code: i.Op, a: i.A, b: i.B, number: join(i.K, i.Sub)}
	case api.InstAddI:
		return form{code: i.Op, a: i.A, b: i.B, number: i.Imm}
	case api.InstLoad, api.InstStore:
		return form{i.Op, i.A, i.B, i.K, i.Imm}
	case api.InstSel:
		return form{i.Op, i.A, i.B, i.C, i.Imm}
	case api.InstJmp, api.InstCall, api.InstChk, api.InstPanic:
		return form{code: i.Op, number: i.Imm}
	case api.InstEmit, api.InstExit:
		return form{code: i.Op, a: i.A}
	case api.InstRet:
		return form{code: i.Op}
	}
	return form{}
}

// unpack is pack, the other way round.
func unpack(f form) api.Inst {
	switch f.code {
	case api.InstMovI, api.InstMovH, api.InstJnz, api.InstJz:
		return api.Inst{Op: f.code, A: f.a, Imm: f.number}
	case api.InstMov, api.InstAlloc:
		return api.Inst{Op: f.code, A: f.a, B: f.b}
	case api.InstBin:
		k, sub := part(f.number)
		return api.Inst{Op: f.code, A: f.a, B: f.b, C: f.c, K: k, Sub: sub}
	case api.InstUn, api.InstConv:
		k, sub := part(f.number)
		return api.Inst{Op: f.code, A: f.a, B: f.b, K: k, Sub: sub}
	case api.InstAddI:
		return api.Inst{Op: f.code, A: f.a, B: f.b, Imm: f.number}
	case api.InstLoad, api.InstStore:
		return api.Inst{Op: f.code, A: f.a, B: f.b, K: f.c, Imm: f.number}
	case api.InstSel:
		return api.Inst{Op: f.code, A: f.a, B: f.b, C: f.c, Imm: f.number}
	case api.InstJmp, api.InstCall, api.InstChk, api.InstPanic:
		return api.Inst{Op: f.code, Imm: f.number}
	case api.InstEmit, api.InstExit:
		return api.Inst{Op: f.code, A: f.a}
	case api.InstRet:
		return api.Inst{Op: f.code}
	}
	return api.Inst{}
}

func join(k, sub int) int64 { return int64(k) + 256*int64(sub) }

func part(number int64) (k, sub int) { return int(number & 255), int(number >> 8) }

// fits tells whether the fields of i are such as its row allows; a field that the row does not name is 0, which is a register too.
func fits(i api.Inst) bool {
	if i.Op == api.InstNone || !isReg(i.A) || !isReg(i.B) || !isReg(i.C) {
		return false
	}
	// 0 is a word of every kind: an error of the kind alone says that there is no such operation.
	switch i.Op {
	case api.InstBin:
		_, e := word.Bin(i.Sub, i.K, 0, 0)
		return e != api.ErrWordKind
	case api.InstUn:
		_, e := word.Un(i.Sub, i.K, 0)
		return e != api.ErrWordKind
	case api.InstConv:
		_, e := word.Conv(i.Sub, i.K, 0)
		return e != api.ErrWordKind
	case api.InstLoad, api.InstStore:
		return word.Width(i.K) > 0
	case api.InstSel:
		return i.Imm >= 0 && i.Imm < api.Regs
	case api.InstChk:
		return i.Imm >= 0
	case api.InstPanic:
		return i.Imm > 0
	}
	return true
}

func isReg(r int) bool { return r >= 0 && r < api.Regs }
