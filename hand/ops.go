package hand

import "gantry/api"

// UnOps tells the operations of one word that a kind has, BinOps those of two.
func UnOps(kind int) []int64 {
	switch {
	case IsInt(kind):
		return []int64{api.UnNeg, api.UnCom}
	case kind == F64:
		return []int64{api.UnNeg}
	case kind == Yes:
		return []int64{api.UnNot}
	}
	return nil
}

func BinOps(kind int) (l []int64) {
	switch kind {
	case Yes:
		return []int64{api.BinAnd, api.BinOr, api.BinXor, api.BinEq, api.BinNe}
	case F64:
		return []int64{api.BinAdd, api.BinSub, api.BinMul, api.BinDiv, api.BinEq, api.BinNe, api.BinLt, api.BinLe, api.BinGt, api.BinGe}
	case Ptr:
		return []int64{api.BinEq, api.BinNe}
	}
	for op := int64(api.BinAdd); op <= api.BinGe; op++ {
		l = append(l, op)
	}
	return l
}

// ByKind is the kind of the second of an OpBin's Args.
func ByKind(op int64, kind int) int {
	if op == api.BinShl || op == api.BinShr {
		return U64
	}
	return kind
}
