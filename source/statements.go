package source

import (
	"gantry/api"
	"gantry/course"
	"gantry/tree"
)

// How it goes on behind a statement.
const (
	onward = iota // with the next one
	leave         // behind a loop around
	again         // with a loop around once more
	back          // behind the call
)

// way is how it goes on, and, of leave and again, how many loops are left ahead of that one.
type way struct {
	how   int
	loops int64
}

func (r *runner) statements(list []tree.Statement) way {
	for i := range list {
		if w := r.statement(&list[i]); w.how != onward {
			return w
		}
	}
	return way{}
}

func (r *runner) statement(x *tree.Statement) way {
	r.Burn()
	r.terms(x.Args)
	switch x.Op {
	case api.StmtSet:
		r.set(x.To)
	case api.StmtStore:
		r.store(x.Args[1].T)
	case api.StmtIf:
		if r.pop() == 1 {
			return r.statements(x.A)
		}
		return r.statements(x.B)
	case api.StmtLoop:
		return r.loop(x.A)
	case api.StmtBreak:
		return way{leave, x.N}
	case api.StmtContinue:
		return way{again, x.N}
	case api.StmtReturn:
		return way{how: back}
	case api.StmtEmit:
		r.Emit(r.pop())
	case api.StmtPanic:
		course.Stop(api.EndPanic, api.PanicUser+x.N)
	case api.StmtCall:
		r.call(int(x.N))
		r.set(x.To)
	}
	return way{}
}

// set lays the last words of the stack into locals, the last one first.
func (r *runner) set(to []tree.Part) {
	for i := len(to) - 1; i >= 0; i-- {
		words := r.take(to[i].Many)
		copy(r.local(to[i]), words)
	}
}

func (r *runner) store(t int) {
	words := r.take(r.Words(t))
	begins := r.pointer()
	e := &r.Table[t]
	for i, x := range words {
		r.Memory().Store(begins+uint64(e.Offsets[i]), e.Kinds[i], x)
	}
}

func (r *runner) loop(body []tree.Statement) way {
	for {
		r.Burn()
		w := r.statements(body)
		switch {
		case w.how == back:
			return w
		case w.loops > 0:
			return way{w.how, w.loops - 1}
		case w.how == leave:
			return way{}
		}
	}
}
