// Package word: what one word is: see ../../shared/doc/01-word.md.
package word

import "gantry/api"

// Width is a kind's bits; 0 of what is no kind of a word.
func Width(k int) int {
	switch k {
	case api.KindBool:
		return 1
	case api.KindI8:
		fallthrough
	case api.KindU8:
		return 8
	case api.KindI16:
		fallthrough
	case api.KindU16:
		return 16
	case api.KindI32:
		fallthrough
	case api.KindU32:
		return 32
	case api.KindI64:
		fallthrough
	case api.KindU64:
		fallthrough
	case api.KindF64:
		fallthrough
	case api.KindPtr:
		return 64
	}
	return 0
}

// Bytes is the room of a kind's word in memory; a bool's one bit takes a byte.
func Bytes(k int) int { return (Width(k) + 7) / 8 }

// Canon is the word of k with x's lowest bits.
func Canon(k int, x uint64) uint64 {
	w := Width(k)
	if w == 0 {
		return 0
	}
	spare := uint(64 - w)
	if isSigned(k) {
		return uint64(int64(x<<spare) >> spare)
	}
	return x << spare >> spare
}

// Is tells whether x is a word of k.
func Is(k int, x uint64) bool { return Width(k) > 0 && Canon(k, x) == x }

// Un is op of the word x of kind k.
func Un(op, k int, x uint64) (uint64, api.Errno) {
	if !hasUn(op, k) {
		return 0, api.ErrWordKind
	}
	if !Is(k, x) {
		return 0, api.ErrWordForm
	}
	switch {
	case op == api.UnNot:
		return x ^ 1, api.OK
	case op == api.UnCom:
		return Canon(k, ^x), api.OK
	case k == api.KindF64:
		return flipSign(x), api.OK
	}
	return Canon(k, -x), api.OK
}

// Bin is op of the words x and y of kind k; how far a shift goes is a word of KindU64.
func Bin(op, k int, x, y uint64) (uint64, api.Errno) {
	if !hasBin(op, k) {
		return 0, api.ErrWordKind
	}
	second := k
	if op == api.BinShl || op == api.BinShr {
		second = api.KindU64
	}
	if !Is(k, x) || !Is(second, y) {
		return 0, api.ErrWordForm
	}
	if k == api.KindF64 {
		return binFloat(op, x, y), api.OK
	}
	if y == 0 && (op == api.BinDiv || op == api.BinRem) {
		return 0, api.ErrWordZero
	}
	if isSigned(k) {
		return binSigned(op, k, x, y), api.OK
	}
	return binUnsigned(op, k, x, y), api.OK
}

// Conv is the word of to that stands for the number that x of from is.
func Conv(from, to int, x uint64) (uint64, api.Errno) {
	if !isNumber(from) || !isNumber(to) {
		return 0, api.ErrWordKind
	}
	if !Is(from, x) {
		return 0, api.ErrWordForm
	}
	switch {
	case from == api.KindF64 && to == api.KindF64:
		return x, api.OK
	case from == api.KindF64:
		return Canon(to, truncate(x)), api.OK
	case to == api.KindF64:
		return nearest(from, x), api.OK
	}
	return Canon(to, x), api.OK
}
