package fold_test

import (
	"fmt"

	"gantry/api"
	. "gantry/hand"
)

// form is one of those that P17.1 lists, of one kind: make lays it, of values x and y of the kind, and tells it.
type form struct {
	name string
	make func(m *Maker, x, y int) int
}

// formsOf tells all forms of a kind but those of ways.
func formsOf(kind int) []form {
	var l []form
	for _, of := range []func(int) []form{unForms, constForms, convForms, selForms, byForms, turnForms, twiceForms, addrForms} {
		l = append(l, of(kind)...)
	}
	return l
}

// numbers are the kinds of numbers.
func numbers() []int { return append(Ints(), F64) }

func isNumber(kind int) bool { return IsInt(kind) || kind == F64 }

// unForms: of an OpConst, of an OpUn.
func unForms(kind int) (l []form) {
	for _, op := range UnOps(kind) {
		for _, x := range Edges(kind)[:2] {
			l = append(l, form{fmt.Sprint("un ", op, " of ", x), func(m *Maker, _, _ int) int { return m.Un(op, kind, m.Con(kind, x)) }})
		}
		l = append(l,
			form{fmt.Sprint("un ", op, " of itself"), func(m *Maker, x, _ int) int { return m.Un(op, kind, m.Un(op, kind, x)) }},
			form{fmt.Sprint("un ", op, " of itself, thrice"), func(m *Maker, x, _ int) int { return m.Un(op, kind, m.Un(op, kind, m.Un(op, kind, x))) }})
	}
	return l
}

// constForms: OpBins of OpConsts, and OpSels.
func constForms(kind int) (l []form) {
	w := Edges(kind)
	for _, op := range BinOps(kind) {
		second := Edges(ByKind(op, kind))
		l = append(l, form{fmt.Sprint("bin ", op, " of OpConsts"), func(m *Maker, _, _ int) int {
			x := m.Con(kind, w[len(w)-1])
			return m.Bin(op, kind, x, m.Con(ByKind(op, kind), second[1]))
		}})
	}
	for c := range uint64(2) {
		l = append(l, form{fmt.Sprint("sel of OpConsts by ", c), func(m *Maker, _, _ int) int {
			x, y := m.Con(kind, w[0]), m.Con(kind, w[1])
			return m.Sel(kind, m.Flag(c), x, y)
		}})
	}
	return l
}

// convForms: of an OpConst, to the same Kind.
func convForms(kind int) (l []form) {
	if !isNumber(kind) {
		return nil
	}
	for _, from := range numbers() {
		for _, x := range Edges(from)[3:5] {
			l = append(l, form{fmt.Sprint("conv of ", x, " of the kind ", from), func(m *Maker, _, _ int) int { return m.Conv(kind, m.Con(from, x)) }})
		}
	}
	return append(l, form{"conv to the same Kind", func(m *Maker, x, _ int) int { return m.Conv(kind, x) }})
}

func selForms(kind int) (l []form) {
	for c := range uint64(2) {
		l = append(l, form{fmt.Sprint("sel by ", c), func(m *Maker, x, y int) int { return m.Sel(kind, m.Flag(c), x, y) }})
	}
	return append(l,
		form{"sel of one value twice", func(m *Maker, x, _ int) int { return m.Sel(kind, flag, x, x) }},
		form{"sel of one OpConst twice", func(m *Maker, _, _ int) int {
			x := m.Con(kind, Edges(kind)[1])
			return m.Sel(kind, flag, x, x)
		}})
}

// byRows: what an OpBin of an int kind by an OpConst is that changes nothing, or decides all.
func byRows(kind int) map[int64][]uint64 {
	return map[int64][]uint64{
		api.BinAdd: {0}, api.BinSub: {0}, api.BinOr: {0, Ones(kind)}, api.BinXor: {0}, api.BinShl: {0}, api.BinShr: {0},
		api.BinMul: {0, 1}, api.BinDiv: {1}, api.BinAnd: {0, Ones(kind)},
	}
}

func byForms(kind int) (l []form) {
	if !IsInt(kind) {
		return nil
	}
	for _, op := range BinOps(kind) {
		for _, c := range byRows(kind)[op] {
			l = append(l, form{fmt.Sprint("bin ", op, " by ", c), func(m *Maker, x, _ int) int { return m.Bin(op, kind, x, m.Con(ByKind(op, kind), c)) }})
		}
	}
	return l
}

// turnForms: an OpConst that stands first.
func turnForms(kind int) (l []form) {
	if !IsInt(kind) {
		return nil
	}
	for _, op := range []int64{api.BinAdd, api.BinMul, api.BinAnd, api.BinOr, api.BinXor} {
		for _, c := range []uint64{0, 1, 5, Ones(kind), Least(kind), Greatest(kind)} {
			l = append(l, form{fmt.Sprint("bin ", op, " of ", c, " and another one"), func(m *Maker, x, _ int) int { return m.Bin(op, kind, m.Con(kind, c), x) }})
		}
	}
	return l
}

// twiceForms: OpBins of one value twice.
func twiceForms(kind int) (l []form) {
	if kind == F64 {
		return nil
	}
	for _, op := range BinOps(kind) {
		switch op {
		case api.BinAdd, api.BinMul, api.BinDiv, api.BinRem, api.BinShl, api.BinShr:
			continue
		}
		l = append(l, form{fmt.Sprint("bin ", op, " of one value twice"), func(m *Maker, x, _ int) int { return m.Bin(op, kind, x, x) }})
	}
	return l
}

func addrForms(kind int) []form {
	if kind != Ptr {
		return nil
	}
	return []form{
		{"addr with an OpConst", func(m *Maker, x, _ int) int { return m.Element(x, 4, m.Con(U64, 5), 4) }},
		{"addr with 0", func(m *Maker, x, _ int) int { return m.Element(x, 0, m.Con(U64, 0), 8) }},
		{"addr with M 0", func(m *Maker, x, _ int) int { return m.Element(x, 24, m.Con(U64, Minus(1)), 0) }},
		{"addr with N 0", func(m *Maker, x, _ int) int { return m.Addr(x, 0) }},
		{"addr of an addr", func(m *Maker, x, _ int) int { return m.Addr(m.Addr(x, 8), 16) }},
		{"addr of an addr with an index", func(m *Maker, x, _ int) int { return m.Addr(m.Element(x, 8, m.Con(U64, 2), 4), 8) }},
		{"addr with N 0 of an addr", func(m *Maker, x, _ int) int { return m.Addr(m.Addr(x, 24), 0) }},
		{"addr of an addr with N 0", func(m *Maker, x, _ int) int { return m.Addr(m.Addr(x, 0), 24) }},
	}
}
