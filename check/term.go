package check

import (
	"gantry/api"
	"gantry/fault"
	"gantry/word"
)

// Beyond these R1's bound says nothing of a term, whose nodes have 64 bytes each at least. There it goes no further, so that it ends even where lists stand in themselves.
const (
	boundNodes = 1 << 31 / 64
	boundNest  = 1 << 16
)

// term tells a term's type.
func (s *scope) term(x api.Expr) int {
	s.nodes++
	s.deep++
	fault.Must(s.nodes < boundNodes && s.deep < boundNest, api.ErrCheckCount)
	r := termRowOf(x)
	fault.Must(r.ask != nil && partsOfTerm(x)&^r.parts == 0, api.ErrCheckOp)
	fault.Must(argsFit(r.args, len(x.Args)), api.ErrCheckCount)
	fault.Must(r.parts&partT == 0 || s.isEntry(x.T), api.ErrCheckType)
	told := r.ask(s, x, s.terms(x.Args))
	s.deep--
	return told
}

func (s *scope) terms(l []api.Expr) (told []int) {
	for _, x := range l {
		told = append(told, s.term(x))
	}
	return told
}

// termRow is a row of terms: what it names; how many Args; who asks what must be, and tells the type.
type termRow struct {
	parts int
	args  int
	ask   func(s *scope, x api.Expr, args []int) int
}

// termRowOf: what has no row has nobody to ask.
func termRowOf(x api.Expr) termRow {
	switch x.Op {
	case api.ExprConst:
		return termRow{partT | partN, 0, (*scope).constant}
	case api.ExprStr:
		return termRow{partT | partS, 0, (*scope).text}
	case api.ExprNil:
		return termRow{partT, 0, (*scope).null}
	case api.ExprLocal:
		return termRow{partN, 0, (*scope).local}
	case api.ExprUn:
		return unaryRowOf(x.N)
	case api.ExprBin:
		return binaryRowOf(x.N)
	case api.ExprAnd, api.ExprOr:
		return termRow{0, 2, (*scope).logic}
	case api.ExprConv:
		return termRow{partT, 1, (*scope).convert}
	case api.ExprField:
		return termRow{partN, 1, (*scope).field}
	case api.ExprStruct:
		return termRow{partT, anyArgs, (*scope).structure}
	case api.ExprLoad:
		return termRow{0, 1, (*scope).load}
	case api.ExprAddr:
		return termRow{partT | partN, 1, (*scope).address}
	case api.ExprElem:
		return termRow{partT, 2, (*scope).elementAt}
	case api.ExprIndex:
		return termRow{partT, 2, (*scope).index}
	case api.ExprLen:
		return termRow{partT, 1, (*scope).length}
	case api.ExprSlice:
		return termRow{0, 3, (*scope).slice}
	case api.ExprNew:
		return termRow{partT, 0, (*scope).fresh}
	case api.ExprMake:
		return termRow{partT, 1, (*scope).manyFresh}
	}
	return termRow{}
}

func unaryRowOf(op int64) termRow {
	switch op {
	case api.UnNeg, api.UnNot, api.UnCom:
		return termRow{partN, 1, (*scope).unary}
	}
	return termRow{}
}

func binaryRowOf(op int64) termRow {
	switch {
	case op >= api.BinAdd && op <= api.BinXor:
		return termRow{partN, 2, (*scope).binary}
	case op == api.BinShl, op == api.BinShr:
		return termRow{partN, 2, (*scope).shift}
	case op >= api.BinEq && op <= api.BinGe:
		return termRow{partT | partN, 2, (*scope).compare}
	}
	return termRow{}
}

func (s *scope) constant(x api.Expr, _ []int) int {
	fault.Must(s.isPlain(x.T), api.ErrCheckType)
	fault.Must(word.Is(s.kind(x.T), uint64(x.N)), api.ErrCheckConst)
	return x.T
}

func (s *scope) text(x api.Expr, _ []int) int {
	fault.Must(s.kind(x.T) == api.TypeString, api.ErrCheckType)
	return x.T
}

func (s *scope) null(x api.Expr, _ []int) int {
	fault.Must(s.kind(x.T) == api.KindPtr || s.kind(x.T) == api.TypeSlice, api.ErrCheckType)
	return x.T
}

func (s *scope) local(x api.Expr, _ []int) int {
	fault.Must(isNumberOf(len(s.f.Locals), x.N), api.ErrCheckLocal)
	return s.f.Locals[x.N]
}

func (s *scope) unary(x api.Expr, args []int) int {
	_, e := word.Un(int(x.N), s.kind(args[0]), 0)
	fault.Must(e != api.ErrWordKind, api.ErrCheckOp)
	return args[0]
}

func (s *scope) binary(x api.Expr, args []int) int {
	fault.Must(args[0] == args[1], api.ErrCheckType)
	fault.Must(s.hasBin(args[0], x.N), api.ErrCheckOp)
	return args[0]
}

// hasBin: a division by 0 is one, too.
func (s *scope) hasBin(i int, op int64) bool {
	_, e := word.Bin(int(op), s.kind(i), 0, 0)
	return e != api.ErrWordKind
}

func (s *scope) shift(_ api.Expr, args []int) int {
	fault.Must(s.isInt(args[0]) && s.isInt(args[1]), api.ErrCheckType)
	return args[0]
}

func (s *scope) compare(x api.Expr, args []int) int {
	fault.Must(s.isBool(x.T) && args[0] == args[1], api.ErrCheckType)
	fault.Must(s.hasBin(args[0], x.N), api.ErrCheckOp)
	return x.T
}

func (s *scope) logic(_ api.Expr, args []int) int {
	fault.Must(s.isBool(args[0]) && args[0] == args[1], api.ErrCheckType)
	return args[0]
}

func (s *scope) convert(x api.Expr, args []int) int {
	_, e := word.Conv(s.kind(args[0]), s.kind(x.T), 0)
	fault.Must(e != api.ErrWordKind, api.ErrCheckType)
	return x.T
}
