package build

import (
	"slices"

	"gantry/api"
	"gantry/tree"
)

// writer lays a function's values and blocks, in the order in which they run.
type writer struct {
	tree.Table
	funcs  []tree.Function
	values []api.Value
	blocks []api.Block
	end    // of what is laid until now
	loops  []*loop
}

func newWriter(table tree.Table, funcs []tree.Function) *writer {
	return &writer{Table: table, funcs: funcs}
}

// function lays a whole one. Locals that are no parameters are one 0 a kind at first.
func (w *writer) function(f *tree.Function) {
	w.block = w.room()
	w.state = append(w.state, w.lay(api.OpInit, api.KindMem, 0))
	for i, k := range f.Params {
		w.state = append(w.state, w.lay(api.OpArg, k, int64(i)))
	}
	var zeros [api.KindPtr + 1]int // a value that is no memory is not the number 0
	for _, k := range f.Others {
		if zeros[k] == 0 {
			zeros[k] = w.constant(k, 0)
		}
		w.state = append(w.state, zeros[k])
	}
	w.statements(f.Body)
}

// put lays a value behind all others of the block in which it is.
func (w *writer) put(v api.Value) int {
	w.values = append(w.values, v)
	number := len(w.values) - 1
	b := &w.blocks[w.block]
	b.List = append(b.List, number)
	return number
}

func (w *writer) lay(op, kind int, n int64, args ...int) int {
	return w.put(api.Value{Op: op, Kind: kind, N: n, Args: args})
}

// change lays what makes memory: it is the one that is there from now on.
func (w *writer) change(op int, n int64, args ...int) int {
	told := w.lay(op, api.KindMem, n, slices.Concat(args, one(w.memory()))...)
	w.state[0] = told
	return told
}

func (w *writer) constant(kind int, n int64) int { return w.lay(api.OpConst, kind, n) }

// compare lays a comparison.
func (w *writer) compare(op int64, x, y int) int { return w.lay(api.OpBin, api.KindBool, op, x, y) }

func (w *writer) kind(value int) int { return w.values[value].Kind }

// as tells a value as one of that kind.
func (w *writer) as(kind, value int) int {
	if w.kind(value) == kind {
		return value
	}
	return w.lay(api.OpConv, kind, 0, value)
}

// whole tells an index, a bound, a length as a KindU64: what is below 0 is then above all that may be, so that numbers of all kinds are held against each other in one way.
func (w *writer) whole(value int) int { return w.as(api.KindU64, value) }

// must: where it does not hold, the run ends by a panic of that kind.
func (w *writer) must(holds int, kind int64) {
	w.either(holds,
		func() []int { return nil },
		func() []int { w.quit(api.Block{Kind: api.BlockPanic, N: kind}); return nil })
}
