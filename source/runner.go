package source

import (
	"gantry/api"
	"gantry/mem"
)

// maxAway is how many functions may be away at once, the function 0 among them.
const maxAway = 1024

// align is what the heap and its blocks are multiples of, in bytes.
const align = 8

// runner is a run. Its stack has the words of the locals of all functions that are away, the last one's last, and behind them those of terms that are being worked out.
type runner struct {
	table
	funcs  []function
	memory *mem.Mem
	heap   uint64
	stack  []uint64
	frame  int // where the last function's locals begin in the stack
	away   int
	fuel   int
	told   api.Run
}

func newRunner(p api.Program, data []byte, fuel int) *runner {
	r := &runner{table: newTable(p.Types), fuel: fuel}
	d := &reader{table: r.table, types: p.Types, text: api.DataBase}
	for _, f := range p.Funcs {
		r.funcs = append(r.funcs, d.function(f))
	}
	r.memory, _ = mem.New(api.MaxMemory)
	r.memory.Put(api.DataBase, data)
	r.heap = roundUp(api.DataBase + uint64(len(data)))
	return r
}

func roundUp(n uint64) uint64 { return (n + align - 1) / align * align }

// ending is what a run's end is panicked with: a type of its own, so that no other panic is taken for one.
type ending struct {
	end int
	n   int64
}

func stop(end int, n int64) { panic(ending{end, n}) }

// must: what does not hold ends the run by a panic of that kind.
func must(holds bool, kind int64) {
	if !holds {
		stop(api.EndPanic, kind)
	}
}

// run runs the function 0. A panic that is no ending says nothing of the program, and is not kept back.
func (r *runner) run(args []uint64) (told api.Run) {
	defer func() {
		x := recover()
		e, own := x.(ending)
		if !own {
			panic(x)
		}
		r.told.End, r.told.N = e.end, e.n
		told = r.told
	}()
	r.push(args...)
	r.call(0)
	panic(ending{api.EndExit, int64(r.pop())})
}

func (r *runner) burn() {
	if r.told.Steps == r.fuel {
		stop(api.EndFuel, 0)
	}
	r.told.Steps++
}

// call runs a function: the last words of the stack are its arguments', and then, in their stead, its results'. A call that is one too many has begun, for it counts itself.
func (r *runner) call(n int) {
	f := &r.funcs[n]
	outer, number := r.frame, len(r.told.Calls)
	r.frame = len(r.stack) - f.params
	r.told.Calls = append(r.told.Calls, api.Call{Func: n, Args: copied(r.stack[r.frame:])})
	r.away++
	if r.away > maxAway {
		stop(api.EndResource, 0)
	}
	r.push(make([]uint64, f.others)...)
	r.statements(f.body)
	results := copied(r.take(f.results))
	r.told.Calls[number].Back, r.told.Calls[number].Results = true, results
	r.away--
	r.stack = r.stack[:r.frame]
	r.frame = outer
	r.push(results...)
}

// copied: what is told of a call is memory of its own.
func copied(words []uint64) []uint64 { return append([]uint64(nil), words...) }

// block tells where a new block of so many bytes begins. No block was another one ahead of it, so its bytes are 0 still.
func (r *runner) block(bytes uint64) uint64 {
	begins := r.heap
	end := begins + roundUp(max(bytes, 1))
	if end > api.MaxMemory {
		stop(api.EndResource, 0)
	}
	r.heap = end
	return begins
}

func (r *runner) push(words ...uint64) { r.stack = append(r.stack, words...) }

func (r *runner) pop() uint64 { return r.take(1)[0] }

// take takes the last words off the stack. They stand there until the next ones are pushed.
func (r *runner) take(many int) []uint64 {
	rest := len(r.stack) - many
	words := r.stack[rest:]
	r.stack = r.stack[:rest]
	return words
}

// local tells the words of a local of the last function, where they stand.
func (r *runner) local(p part) []uint64 {
	begins := r.frame + p.at
	return r.stack[begins : begins+p.many]
}
