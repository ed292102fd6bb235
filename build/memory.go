package build

import (
	"gantry/api"
	"gantry/tree"
)

// there: what a pointer points to is there, unless it is nil.
func (w *writer) there(pointer int) {
	w.must(w.compare(api.BinNe, pointer, w.constant(api.KindPtr, 0)), api.PanicNil)
}

func (w *writer) load(t, pointer int) []int {
	w.there(pointer)
	e := &w.Table[t]
	var told []int
	for i, k := range e.Kinds {
		told = append(told, w.lay(api.OpLoad, k, int64(e.Offsets[i]), pointer, w.memory()))
	}
	return told
}

// further tells where the element i begins.
func (w *writer) further(begins, i, stride int) int {
	return w.put(api.Value{Op: api.OpAddr, Kind: api.KindPtr, M: stride, Args: []int{begins, i}})
}

// within tells an index that is below a length.
func (w *writer) within(i, many int) int {
	i = w.whole(i)
	w.must(w.compare(api.BinLt, i, w.whole(many)), api.PanicIndex)
	return i
}

// element: of a pointer to an array the length is known.
func (w *writer) element(x *tree.Term, of []int, i int) int {
	t := w.Table[x.Args[0].T]
	if t.Kind == api.TypeSlice {
		return w.further(of[0], w.within(i, of[1]), w.Stride(x.T))
	}
	w.there(of[0])
	many := w.constant(api.KindU64, int64(w.Table[t.Elem].N))
	return w.further(of[0], w.within(i, many), w.Stride(x.T))
}

func (w *writer) index(text []int, i int) int {
	at := w.further(text[0], w.within(i, text[1]), 1)
	return w.lay(api.OpLoad, api.KindU8, 0, at, w.memory())
}

func (w *writer) slice(stride int, of []int, lo, hi int) []int {
	lo, hi = w.whole(lo), w.whole(hi)
	inOrder := w.compare(api.BinLe, lo, hi)
	inside := w.compare(api.BinLe, hi, w.whole(of[1]))
	w.must(w.lay(api.OpBin, api.KindBool, api.BinAnd, inOrder, inside), api.PanicSlice)
	begins := w.further(of[0], lo, stride)
	many := w.lay(api.OpBin, api.KindU64, api.BinSub, hi, lo)
	return []int{begins, w.as(api.KindI64, many)}
}

// fresh tells where a new block of so many bytes begins.
func (w *writer) fresh(bytes int) int {
	return w.lay(api.OpBlock, api.KindPtr, 0, w.change(api.OpAlloc, 0, bytes))
}

// manyFresh: no product of what may be too many is asked, for it may wrap round.
func (w *writer) manyFresh(stride, many int) []int {
	length := w.whole(many)
	most := w.constant(api.KindU64, int64(api.MaxMemory/max(stride, 1)))
	w.must(w.compare(api.BinLe, length, most), api.PanicMake)
	bytes := w.lay(api.OpBin, api.KindU64, api.BinMul, length, w.constant(api.KindU64, int64(stride)))
	return []int{w.fresh(bytes), w.as(api.KindI64, length)}
}
