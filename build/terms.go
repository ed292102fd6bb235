package build

import (
	"slices"

	"gantry/api"
	"gantry/tree"
)

func (w *writer) terms(list []tree.Term) [][]int {
	var told [][]int
	for i := range list {
		told = append(told, w.term(&list[i]))
	}
	return told
}

// term tells a term's words.
func (w *writer) term(x *tree.Term) []int {
	if x.Op == api.ExprAnd || x.Op == api.ExprOr {
		return w.logic(x)
	}
	args := w.terms(x.Args)
	switch x.Op {
	case api.ExprConst, api.ExprNil:
		return w.constants(x)
	case api.ExprStr:
		return w.text(x)
	case api.ExprLocal:
		return slices.Clone(w.local(x.Part))
	case api.ExprUn:
		return one(w.lay(api.OpUn, w.kind(args[0][0]), int64(x.N), args[0]...))
	case api.ExprBin:
		return one(w.binary(x.N, args[0][0], args[1][0]))
	case api.ExprConv:
		return one(w.as(w.Table[x.T].Kind, args[0][0]))
	case api.ExprField:
		return args[0][x.Part.At:][:x.Part.Many]
	case api.ExprStruct:
		return slices.Concat(args...)
	case api.ExprLoad:
		return w.load(x.T, args[0][0])
	case api.ExprAddr:
		w.there(args[0][0])
		return one(w.lay(api.OpAddr, api.KindPtr, int64(x.N), args[0]...))
	case api.ExprElem:
		return one(w.element(x, args[0], args[1][0]))
	case api.ExprIndex:
		return one(w.index(args[0], args[1][0]))
	case api.ExprLen:
		return one(args[0][1])
	case api.ExprSlice:
		return w.slice(w.Stride(x.T), args[0], args[1][0], args[2][0])
	case api.ExprNew:
		return one(w.fresh(w.constant(api.KindU64, int64(w.Stride(x.T)))))
	}
	return w.manyFresh(w.Stride(x.T), args[0][0])
}

func one(value int) []int { return []int{value} }

// logic: what Args[0] tells is all, unless Args[1] has to be asked.
func (w *writer) logic(x *tree.Term) []int {
	first := w.term(&x.Args[0])
	known := func() []int { return first }
	asked := func() []int { return w.term(&x.Args[1]) }
	if x.Op == api.ExprAnd {
		return w.either(first[0], asked, known)
	}
	return w.either(first[0], known, asked)
}

func (w *writer) constants(x *tree.Term) []int {
	var told []int
	for i, k := range w.Table[x.T].Kinds {
		told = append(told, w.constant(k, int64(x.Words[i])))
	}
	return told
}

func (w *writer) text(x *tree.Term) []int {
	begins := w.lay(api.OpData, api.KindPtr, int64(x.Words[0])-api.DataBase)
	return []int{begins, w.constant(api.KindI64, int64(x.Words[1]))}
}

func (w *writer) binary(op, x, y int) int {
	k := w.kind(x)
	switch op {
	case api.BinDiv, api.BinRem:
		if k != api.KindF64 {
			w.must(w.compare(api.BinNe, y, w.constant(k, 0)), api.PanicDiv)
		}
	case api.BinShl, api.BinShr:
		y = w.places(y)
	}
	if op >= api.BinEq {
		return w.compare(int64(op), x, y)
	}
	return w.lay(api.OpBin, k, int64(op), x, y)
}

// places tells how far a shift goes. No word of an unsigned kind is below 0.
func (w *writer) places(x int) int {
	if k := w.kind(x); k <= api.KindI64 {
		w.must(w.compare(api.BinGe, x, w.constant(k, 0)), api.PanicShift)
	}
	return w.whole(x)
}
