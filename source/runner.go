package source

import (
	"gantry/api"
	"gantry/course"
	"gantry/tree"
)

// runner is a run. Its stack has the words of the locals of all functions that are away, the last one's last, and behind them those of terms that are being worked out.
type runner struct {
	*course.Course
	tree.Table
	funcs []tree.Function
	stack []uint64
	frame int // where the last function's locals begin in the stack
}

func newRunner(p api.Program, data []byte, fuel int) *runner {
	table, funcs := tree.Of(p)
	return &runner{Course: course.New(data, fuel), Table: table, funcs: funcs}
}

// must: what does not hold ends the run by a panic of that kind.
func must(holds bool, kind int64) {
	if !holds {
		course.Stop(api.EndPanic, kind)
	}
}

// run runs the function 0.
func (r *runner) run(args []uint64) api.Run {
	return r.Follow(func() uint64 {
		r.push(args...)
		r.call(0)
		return r.pop()
	})
}

// call runs a function: the last words of the stack are its arguments', and then, in their stead, its results'.
func (r *runner) call(n int) {
	f := &r.funcs[n]
	outer := r.frame
	r.frame = len(r.stack) - len(f.Params)
	number := r.Begin(n, copied(r.stack[r.frame:]))
	r.push(make([]uint64, len(f.Others))...)
	r.statements(f.Body)
	results := copied(r.take(len(f.Results)))
	r.Back(number, results)
	r.stack = r.stack[:r.frame]
	r.frame = outer
	r.push(results...)
}

// copied: what is told of a call is memory of its own.
func copied(words []uint64) []uint64 { return append([]uint64(nil), words...) }

func (r *runner) push(words ...uint64) { r.stack = append(r.stack, words...) }

func (r *runner) pop() uint64 { return r.take(1)[0] }

// take takes the last words off the stack. They stand there until the next ones are pushed.
func (r *runner) take(many int) []uint64 {
	rest := len(r.stack) - many
	words := r.stack[rest:]
	r.stack = r.stack[:rest]
	return words
}

// local tells the words of a local of the last function, where they stand.
func (r *runner) local(p tree.Part) []uint64 {
	begins := r.frame + p.At
	return r.stack[begins : begins+p.Many]
}

// stride tells it as a word.
func (r *runner) stride(i int) uint64 { return uint64(r.Stride(i)) }
