package source

import (
	"gantry/api"
	"gantry/tree"
	"gantry/word"
)

func (r *runner) terms(list []tree.Term) {
	for i := range list {
		r.term(&list[i])
	}
}

// term works a term out: its words are the last ones of the stack then.
func (r *runner) term(x *tree.Term) {
	if x.Op == api.ExprAnd || x.Op == api.ExprOr {
		r.logic(x)
		return
	}
	r.terms(x.Args)
	switch x.Op {
	case api.ExprConst, api.ExprStr, api.ExprNil:
		r.push(x.Words...)
	case api.ExprLocal:
		r.push(r.local(x.Part)...)
	case api.ExprUn:
		r.unary(x)
	case api.ExprBin:
		r.binary(x)
	case api.ExprConv:
		r.convert(x)
	case api.ExprField:
		r.field(x)
	case api.ExprStruct: // its fields' words stand there, one behind the other: they are its
	case api.ExprLoad:
		r.load(x)
	case api.ExprAddr:
		r.push(r.pointer() + uint64(x.N))
	case api.ExprElem:
		r.element(x)
	case api.ExprIndex:
		r.index()
	case api.ExprLen:
		r.length()
	case api.ExprSlice:
		r.slice(x)
	case api.ExprNew:
		r.push(r.Block(r.stride(x.T)))
	case api.ExprMake:
		r.manyNew(x)
	}
}

// logic: what Args[0] tells is all, unless Args[1] has to be asked.
func (r *runner) logic(x *tree.Term) {
	r.term(&x.Args[0])
	asks := uint64(0)
	if x.Op == api.ExprAnd {
		asks = 1
	}
	if first := r.pop(); first != asks {
		r.push(first)
		return
	}
	r.term(&x.Args[1])
}

func (r *runner) unary(x *tree.Term) {
	told, _ := word.Un(x.N, r.Table[x.T].Kind, r.pop())
	r.push(told)
}

func (r *runner) binary(x *tree.Term) {
	second, first := r.pop(), r.pop()
	if x.N == api.BinShl || x.N == api.BinShr {
		second = places(r.Table[x.Args[1].T].Kind, second)
	}
	told, e := word.Bin(x.N, r.Table[x.Args[0].T].Kind, first, second)
	must(e != api.ErrWordZero, api.PanicDiv)
	r.push(told)
}

// places tells how far a shift by x, of kind k, goes. No word of an unsigned kind is below 0.
func places(k int, x uint64) uint64 {
	below, _ := word.Bin(api.BinLt, k, x, 0)
	must(below == 0, api.PanicShift)
	far, _ := word.Conv(k, api.KindU64, x)
	return far
}

func (r *runner) convert(x *tree.Term) {
	told, _ := word.Conv(r.Table[x.Args[0].T].Kind, r.Table[x.T].Kind, r.pop())
	r.push(told)
}

func (r *runner) field(x *tree.Term) {
	whole := r.take(r.Words(x.Args[0].T))
	r.push(whole[x.Part.At : x.Part.At+x.Part.Many]...)
}

// pointer takes a pointer off the stack that must not be nil.
func (r *runner) pointer() uint64 {
	p := r.pop()
	must(p != 0, api.PanicNil)
	return p
}

func (r *runner) load(x *tree.Term) {
	begins := r.pointer()
	e := &r.Table[x.T]
	for i, k := range e.Kinds {
		told, _ := r.Memory().Load(begins+uint64(e.Offsets[i]), k)
		r.push(told)
	}
}

// An index, a bound and a length that are below 0 are, as unsigned numbers, above all that may be: so words of all kinds are held against each other in one way.

func (r *runner) element(x *tree.Term) {
	i := r.pop()
	var begins, many uint64
	if of := r.Table[x.Args[0].T]; of.Kind == api.TypeSlice {
		many, begins = r.pop(), r.pop()
	} else {
		begins, many = r.pointer(), uint64(r.Table[of.Elem].N)
	}
	must(i < many, api.PanicIndex)
	r.push(begins + i*r.stride(x.T))
}

func (r *runner) index() {
	i, many, begins := r.pop(), r.pop(), r.pop()
	must(i < many, api.PanicIndex)
	told, _ := r.Memory().Load(begins+i, api.KindU8)
	r.push(told)
}

func (r *runner) length() {
	many, _ := r.pop(), r.pop()
	r.push(many)
}

func (r *runner) slice(x *tree.Term) {
	hi, lo := r.pop(), r.pop()
	many, begins := r.pop(), r.pop()
	must(lo <= hi && hi <= many, api.PanicSlice)
	r.push(begins+lo*r.stride(x.T), hi-lo)
}

func (r *runner) manyNew(x *tree.Term) {
	many := r.pop()
	must(many <= api.MaxMemory && many*r.stride(x.T) <= api.MaxMemory, api.PanicMake)
	r.push(r.Block(many*r.stride(x.T)), many)
}
