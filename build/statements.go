package build

import (
	"slices"

	"gantry/api"
	"gantry/tree"
)

// statements lays a list. What stands behind its end is never come to.
func (w *writer) statements(list []tree.Statement) {
	for i := range list {
		if !w.live() {
			return
		}
		w.statement(&list[i])
	}
}

func (w *writer) statement(x *tree.Statement) {
	args := w.terms(x.Args)
	switch x.Op {
	case api.StmtSet:
		w.set(x.To, args[0])
	case api.StmtStore:
		w.store(x.Args[1].T, args[0][0], args[1])
	case api.StmtIf:
		w.either(args[0][0], w.branch(x.A), w.branch(x.B))
	case api.StmtLoop:
		w.around(func() { w.statements(x.A) })
	case api.StmtBreak:
		w.leave(w.outer(x.N))
	case api.StmtContinue:
		w.again(w.outer(x.N))
	case api.StmtReturn:
		w.quit(api.Block{Kind: api.BlockRet, Args: slices.Concat(args...)})
	case api.StmtEmit:
		w.change(api.OpEmit, 0, args[0]...)
	case api.StmtPanic:
		w.quit(api.Block{Kind: api.BlockPanic, N: api.PanicUser + x.N})
	case api.StmtCall:
		w.set(x.To, w.call(x.N, slices.Concat(args...)))
	}
}

// branch tells what lays the statements: nothing comes of them but what they do.
func (w *writer) branch(list []tree.Statement) func() []int {
	return func() []int {
		w.statements(list)
		return nil
	}
}

// set lays words, one behind the other, into parts of the locals.
func (w *writer) set(to []tree.Part, words []int) {
	for _, p := range to {
		copy(w.local(p), words[:p.Many])
		words = words[p.Many:]
	}
}

// local tells what is known of the words of a local, where it stands.
func (w *writer) local(p tree.Part) []int { return w.state[1+p.At:][:p.Many] }

func (w *writer) store(t, pointer int, words []int) {
	w.there(pointer)
	e := &w.Table[t]
	for i, x := range words {
		w.change(api.OpStore, int64(e.Offsets[i]), pointer, x)
	}
}

// call tells the words of the results.
func (w *writer) call(n int64, args []int) []int {
	called := w.change(api.OpCall, n, args...)
	var told []int
	for i, k := range w.funcs[n].Results {
		told = append(told, w.lay(api.OpResult, k, int64(i), called))
	}
	return told
}
