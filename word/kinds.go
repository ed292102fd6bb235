package word

import "gantry/api"

func isSigned(k int) bool {
	switch k {
	case api.KindI8:
		fallthrough
	case api.KindI16:
		fallthrough
	case api.KindI32:
		fallthrough
	case api.KindI64:
		return true
	}
	return false
}

func isInt(k int) bool {
	switch k {
	case api.KindU8:
		fallthrough
	case api.KindU16:
		fallthrough
	case api.KindU32:
		fallthrough
	case api.KindU64:
		return true
	}
	return isSigned(k)
}

func isNumber(k int) bool { return isInt(k) || k == api.KindF64 }

func isCompare(op int) bool { return op >= api.BinEq && op <= api.BinGe }

// hasUn tells whether words of kind k have the operation op.
func hasUn(op, k int) bool {
	switch op {
	case api.UnNot:
		return k == api.KindBool
	case api.UnNeg:
		if k == api.KindF64 {
			return true
		}
		fallthrough
	case api.UnCom:
		return isInt(k)
	}
	return false
}

// hasBin tells whether words of kind k have the operation op.
func hasBin(op, k int) bool {
	switch k {
	case api.KindBool:
		if op == api.BinAnd || op == api.BinOr || op == api.BinXor {
			return true
		}
		fallthrough
	case api.KindPtr:
		return op == api.BinEq || op == api.BinNe
	case api.KindF64:
		return op >= api.BinAdd && op <= api.BinDiv || isCompare(op)
	}
	return isInt(k) && op >= api.BinAdd && op <= api.BinGe
}
