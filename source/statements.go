package source

import (
	"gantry/api"
	"gantry/course"
)

// How it goes on behind a statement.
const (
	onward = iota // with the next one
	leave         // behind a loop around
	again         // with a loop around once more
	back          // behind the call
)

// way is how it goes on, and, of leave and again, how many loops are left ahead of that one.
type way struct {
	how   int
	loops int64
}

func (r *runner) statements(list []statement) way {
	for i := range list {
		if w := r.statement(&list[i]); w.how != onward {
			return w
		}
	}
	return way{}
}

func (r *runner) statement(x *statement) way {
	r.Burn()
	r.terms(x.args)
	switch x.op {
	case api.StmtSet:
		r.set(x.to)
	case api.StmtStore:
		r.store(x.args[1].t)
	case api.StmtIf:
		if r.pop() == 1 {
			return r.statements(x.a)
		}
		return r.statements(x.b)
	case api.StmtLoop:
		return r.loop(x.a)
	case api.StmtBreak:
		return way{leave, x.n}
	case api.StmtContinue:
		return way{again, x.n}
	case api.StmtReturn:
		return way{how: back}
	case api.StmtEmit:
		r.Emit(r.pop())
	case api.StmtPanic:
		course.Stop(api.EndPanic, api.PanicUser+x.n)
	case api.StmtCall:
		r.call(int(x.n))
		r.set(x.to)
	}
	return way{}
}

// set lays the last words of the stack into locals, the last one first.
func (r *runner) set(to []part) {
	for i := len(to) - 1; i >= 0; i-- {
		words := r.take(to[i].many)
		copy(r.local(to[i]), words)
	}
}

func (r *runner) store(t int) {
	words := r.take(r.words(t))
	begins := r.pointer()
	e := &r.table[t]
	for i, x := range words {
		r.Memory.Store(begins+uint64(e.offsets[i]), e.kinds[i], x)
	}
}

func (r *runner) loop(body []statement) way {
	for {
		r.Burn()
		w := r.statements(body)
		switch {
		case w.how == back:
			return w
		case w.loops > 0:
			return way{w.how, w.loops - 1}
		case w.how == leave:
			return way{}
		}
	}
}
