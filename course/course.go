// Package course is what source and eval have in common (../../shared/doc/10-source.md, 15-eval.md): a run's fuel, its calls, its memory, its end.
package course

import (
	"gantry/api"
	"gantry/mem"
)

// maxAway is how many functions may be away at once, the first one among them.
const maxAway = 1024

// Course is how a run goes: what it has told until now, its memory.
type Course struct {
	Told   api.Run
	memory *mem.Mem
	data   []byte
	heap   uint64
	fuel   int
	away   int
}

// New tells the course of a run that has these data and so much fuel. Of data that are more than the memory has room for, as much stands there as fits.
func New(data []byte, fuel int) *Course {
	return &Course{fuel: fuel, data: data, heap: roundUp(api.DataBase + uint64(len(data)))}
}

// Memory is the run's. It is made when it is asked for first: to make it takes longer than many a run that needs none.
func (c *Course) Memory() *mem.Mem {
	if c.memory == nil {
		c.memory, _ = mem.New(api.MaxMemory)
		c.memory.Put(api.DataBase, c.data[:min(len(c.data), api.MaxMemory-api.DataBase)])
	}
	return c.memory
}

// ending is what a run's end is panicked with: a type of its own, so that no other panic is taken for one.
type ending struct {
	end int
	n   int64
}

// Stop ends the run.
func Stop(end int, n int64) { panic(ending{end, n}) }

// Follow tells how the run of main went, which tells the result. A panic that is no ending says nothing of the program, and is not kept back.
func (c *Course) Follow(main func() uint64) (told api.Run) {
	defer func() {
		x := recover()
		e, own := x.(ending)
		if !own {
			panic(x)
		}
		c.Told.End, c.Told.N = e.end, e.n
		told = c.Told
	}()
	panic(ending{api.EndExit, int64(main())})
}

// Burn takes one fuel.
func (c *Course) Burn() {
	if c.Told.Steps == c.fuel {
		Stop(api.EndFuel, 0)
	}
	c.Told.Steps++
}

// Emit tells a word.
func (c *Course) Emit(x uint64) { c.Told.Trace = append(c.Told.Trace, x) }

// Begin tells a call's number. The words are told too: nobody else may have them. A call that is one too many has begun, for it counts itself.
func (c *Course) Begin(function int, args []uint64) int {
	c.Told.Calls = append(c.Told.Calls, api.Call{Func: function, Args: args})
	c.away++
	if c.away > maxAway {
		Stop(api.EndResource, 0)
	}
	return len(c.Told.Calls) - 1
}

// Back is the end of the call of that number. The words are told too, as Begin's are.
func (c *Course) Back(number int, results []uint64) {
	c.Told.Calls[number].Back, c.Told.Calls[number].Results = true, results
	c.away--
}
