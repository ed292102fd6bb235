package eval

import (
	"slices"

	"gantry/api"
	"gantry/course"
)

// runner is a run.
type runner struct {
	*course.Course
	codes []code
	spare [][]uint64 // rooms for words, of functions that are back
	moved []uint64   // words of OpPhis that are not laid yet
}

// code is a function.
type code struct {
	api.Code
	ways [][2]way
}

func newRunner(u api.Unit, fuel int) *runner {
	r := &runner{Course: course.New(u.Data, fuel)}
	for _, c := range u.Codes {
		r.codes = append(r.codes, code{c, ways(c.Blocks)})
	}
	return r
}

// run runs the Code 0.
func (r *runner) run(args []uint64) api.Run {
	return r.Follow(func() uint64 {
		number := r.call(0, slices.Clone(args))
		return r.Told.Calls[number].Results[0]
	})
}

// call runs a function, and tells the call's number. The words must be memory of their own.
func (r *runner) call(n int, args []uint64) int {
	number := r.Begin(n, args)
	c := &r.codes[n]
	f := &frame{runner: r, code: c, args: args, words: r.room(len(c.Values))}
	r.Back(number, f.walk())
	r.spare = append(r.spare, f.words)
	return number
}

// room tells room for so many words, whatever stands there: calls of a great function would take long, if each one had to make it anew.
func (r *runner) room(many int) []uint64 {
	var room []uint64
	if last := len(r.spare) - 1; last >= 0 {
		room, r.spare = r.spare[last], r.spare[:last]
	}
	return slices.Grow(room[:0], many)[:many]
}
