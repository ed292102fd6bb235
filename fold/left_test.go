package fold_test

import (
	"fmt"

	"gantry/api"
	. "gantry/hand"
	"gantry/word"
)

// looker looks through a Code for what P17.1 lists: a plain model of the list, row by row.
type looker struct{ api.Code }

// left tells what of the list is left in a Code; nothing, if it is as it must be.
func left(c api.Code) string {
	l := looker{c}
	for n, v := range c.Values {
		if row := l.row(n, v); row != "" {
			return fmt.Sprintf("the value %d: %s: %+v", n, row, v)
		}
	}
	for n, b := range c.Blocks {
		if b.Kind == api.BlockIf && l.isConst(b.Args[0]) {
			return fmt.Sprintf("the block %d: a BlockIf by an OpConst: %+v", n, b)
		}
	}
	return ""
}

func (l looker) isConst(n int) bool { return l.Values[n].Op == api.OpConst }

// is tells whether a value is an OpConst that is that word.
func (l looker) is(n int, x uint64) bool { return l.isConst(n) && uint64(l.Values[n].N) == x }

func (l looker) consts(args []int) bool {
	for _, a := range args {
		if !l.isConst(a) {
			return false
		}
	}
	return true
}

func (l looker) row(n int, v api.Value) string {
	switch v.Op {
	case api.OpUn:
		if x := l.Values[v.Args[0]]; x.Op == api.OpUn && x.N == v.N {
			return "an OpUn of an OpUn"
		}
	case api.OpConv:
		if l.Values[v.Args[0]].Kind == v.Kind {
			return "an OpConv to the same Kind"
		}
	case api.OpSel:
		if l.isConst(v.Args[0]) || v.Args[1] == v.Args[2] {
			return "an OpSel by an OpConst, or of one value twice"
		}
	case api.OpBin:
		return l.binRow(v)
	case api.OpAddr:
		return l.addrRow(v)
	case api.OpPhi:
		return l.phiRow(n, v)
	default:
		return ""
	}
	if l.consts(v.Args) {
		return "all of its Args are OpConsts"
	}
	return ""
}

func (l looker) binRow(v api.Value) string {
	x, y := v.Args[0], v.Args[1]
	kind := l.Values[x].Kind
	if l.consts(v.Args) {
		if _, e := word.Bin(int(v.N), kind, uint64(l.Values[x].N), uint64(l.Values[y].N)); e == api.OK {
			return "an OpBin of OpConsts"
		}
		return ""
	}
	if x == y && kind != F64 {
		switch v.N {
		case api.BinSub, api.BinXor, api.BinAnd, api.BinOr, api.BinEq, api.BinNe, api.BinLt, api.BinLe, api.BinGt, api.BinGe:
			return "an OpBin of one value twice"
		}
	}
	if !IsInt(kind) {
		return ""
	}
	found := false
	switch v.N {
	case api.BinAdd, api.BinSub, api.BinXor, api.BinShl, api.BinShr:
		found = l.is(y, 0)
	case api.BinMul:
		found = l.is(y, 0) || l.is(y, 1)
	case api.BinDiv:
		found = l.is(y, 1)
	case api.BinAnd, api.BinOr:
		found = l.is(y, 0) || l.is(y, Ones(kind))
	}
	if found {
		return "an OpBin by an OpConst"
	}
	switch v.N {
	case api.BinAdd, api.BinMul, api.BinAnd, api.BinOr, api.BinXor:
		if l.isConst(x) {
			return "an OpConst stands first"
		}
	}
	return ""
}

func (l looker) addrRow(v api.Value) string {
	x := l.Values[v.Args[0]]
	if len(v.Args) == 2 {
		// Of a greater OpConst N + M is from 0 to MaxSize only where it wraps round: it may go then.
		c := l.Values[v.Args[1]].N
		if l.isConst(v.Args[1]) && (v.M == 0 || c >= 0 && c <= api.MaxSize && v.N+int64(v.M)*c <= api.MaxSize) {
			return "an OpAddr with an OpConst"
		}
		return ""
	}
	if v.N == 0 {
		return "an OpAddr with N 0"
	}
	if x.Op == api.OpAddr && len(x.Args) == 1 && x.N+v.N <= api.MaxSize {
		return "an OpAddr of an OpAddr"
	}
	return ""
}

func (l looker) phiRow(n int, v api.Value) string {
	if v.Kind == Mem {
		return ""
	}
	others := map[int]int{}
	for _, a := range v.Args {
		if a != n {
			others[a]++
		}
	}
	if len(others) < 2 {
		return "an OpPhi of one value"
	}
	return ""
}
