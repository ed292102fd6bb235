package source

import (
	"gantry/api"
	"gantry/word"
)

func (r *runner) terms(list []term) {
	for i := range list {
		r.term(&list[i])
	}
}

// term works a term out: its words are the last ones of the stack then.
func (r *runner) term(x *term) {
	if x.op == api.ExprAnd || x.op == api.ExprOr {
		r.logic(x)
		return
	}
	r.terms(x.args)
	switch x.op {
	case api.ExprConst, api.ExprStr, api.ExprNil:
		r.push(x.words...)
	case api.ExprLocal:
		r.push(r.local(x.part)...)
	case api.ExprUn:
		r.unary(x)
	case api.ExprBin:
		r.binary(x)
	case api.ExprConv:
		r.convert(x)
	case api.ExprField:
		r.field(x)
	case api.ExprStruct: // its fields' words stand there, one behind the other: they are its
	case api.ExprLoad:
		r.load(x)
	case api.ExprAddr:
		r.push(r.pointer() + uint64(x.n))
	case api.ExprElem:
		r.element(x)
	case api.ExprIndex:
		r.index()
	case api.ExprLen:
		r.length()
	case api.ExprSlice:
		r.slice(x)
	case api.ExprNew:
		r.push(r.Block(r.stride(x.t)))
	case api.ExprMake:
		r.manyNew(x)
	}
}

// logic: what Args[0] tells is all, unless Args[1] has to be asked.
func (r *runner) logic(x *term) {
	r.term(&x.args[0])
	asks := uint64(0)
	if x.op == api.ExprAnd {
		asks = 1
	}
	if first := r.pop(); first != asks {
		r.push(first)
		return
	}
	r.term(&x.args[1])
}

func (r *runner) unary(x *term) {
	told, _ := word.Un(x.n, r.table[x.t].Kind, r.pop())
	r.push(told)
}

func (r *runner) binary(x *term) {
	second, first := r.pop(), r.pop()
	if x.n == api.BinShl || x.n == api.BinShr {
		second = places(r.table[x.args[1].t].Kind, second)
	}
	told, e := word.Bin(x.n, r.table[x.args[0].t].Kind, first, second)
	must(e != api.ErrWordZero, api.PanicDiv)
	r.push(told)
}

// places tells how far a shift by x, of kind k, goes. No word of an unsigned kind is below 0.
func places(k int, x uint64) uint64 {
	below, _ := word.Bin(api.BinLt, k, x, 0)
	must(below == 0, api.PanicShift)
	far, _ := word.Conv(k, api.KindU64, x)
	return far
}

func (r *runner) convert(x *term) {
	told, _ := word.Conv(r.table[x.args[0].t].Kind, r.table[x.t].Kind, r.pop())
	r.push(told)
}

func (r *runner) field(x *term) {
	whole := r.take(r.words(x.args[0].t))
	r.push(whole[x.part.at : x.part.at+x.part.many]...)
}

// pointer takes a pointer off the stack that must not be nil.
func (r *runner) pointer() uint64 {
	p := r.pop()
	must(p != 0, api.PanicNil)
	return p
}

func (r *runner) load(x *term) {
	begins := r.pointer()
	e := &r.table[x.t]
	for i, k := range e.kinds {
		told, _ := r.Memory.Load(begins+uint64(e.offsets[i]), k)
		r.push(told)
	}
}

// An index, a bound and a length that are below 0 are, as unsigned numbers, above all that may be: so words of all kinds are held against each other in one way.

func (r *runner) element(x *term) {
	i := r.pop()
	var begins, many uint64
	if of := r.table[x.args[0].t]; of.Kind == api.TypeSlice {
		many, begins = r.pop(), r.pop()
	} else {
		begins, many = r.pointer(), uint64(r.table[of.Elem].N)
	}
	must(i < many, api.PanicIndex)
	r.push(begins + i*r.stride(x.t))
}

func (r *runner) index() {
	i, many, begins := r.pop(), r.pop(), r.pop()
	must(i < many, api.PanicIndex)
	told, _ := r.Memory.Load(begins+i, api.KindU8)
	r.push(told)
}

func (r *runner) length() {
	many, _ := r.pop(), r.pop()
	r.push(many)
}

func (r *runner) slice(x *term) {
	hi, lo := r.pop(), r.pop()
	many, begins := r.pop(), r.pop()
	must(lo <= hi && hi <= many, api.PanicSlice)
	r.push(begins+lo*r.stride(x.t), hi-lo)
}

func (r *runner) manyNew(x *term) {
	many := r.pop()
	must(many <= api.MaxMemory && many*r.stride(x.t) <= api.MaxMemory, api.PanicMake)
	r.push(r.Block(many*r.stride(x.t)), many)
}
