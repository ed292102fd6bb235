package trial

import (
	"slices"
	"sync"

	"gantry/api"
	"gantry/build"
	"gantry/compare"
	"gantry/draft"
	"gantry/edit"
	"gantry/eval"
	"gantry/sample"
)

// Given tells a program that is right, in which there is much to do, and arguments for it.
type Given func(t *sample.Turns) (api.Unit, []uint64)

// Many holds the pass for so many programs, with several fuels each, and tells how often they end by each end.
func (p Pass) Many(t T, turns sample.Turns, given Given, many int) (ends [api.EndStuck + 1]int) {
	t.Helper()
	for range many {
		u, args := given(&turns)
		made := p.Made(t, "many", u)
		Keeps(t, "many", u, made, args, turns.Next(12), 12+turns.Next(100), 100+turns.Next(900))
		r, _ := eval.Run(u, args, 2000)
		ends[r.End]++
	}
	return ends
}

// Twice holds that a second run of the pass behind the first keeps what the first did.
func (p Pass) Twice(t T, turns sample.Turns, given Given) {
	t.Helper()
	for range 800 {
		u, args := given(&turns)
		again := p.Made(t, "again", p.Made(t, "once", u))
		Keeps(t, "again", u, again, args, turns.Next(60))
	}
}

// Turned holds the pass for programs whose values' numbers are turned round.
func (p Pass) Turned(t T, turns sample.Turns, given Given) {
	t.Helper()
	for range 800 {
		u, args := given(&turns)
		Keeps(t, "turned round", u, p.Made(t, "turned round", Back(u)), args, turns.Next(60))
	}
}

// Built holds the pass for units that package build makes of programs, and tells in how many there was something to do.
func (p Pass) Built(t T, turns sample.Turns) (found int) {
	t.Helper()
	var ends [api.EndStuck + 1]int
	for range 300 {
		source, args := draft.Any(&turns)
		u, e := build.Build(source)
		if e != api.OK {
			t.Fatalf("%d: %+v", e, source)
		}
		if p.Finds(u) {
			found++
		}
		r, _ := eval.Run(p.Hold(t, "built", u, args), args, 5000)
		ends[r.End]++
	}
	if slices.Min(ends[api.EndExit:api.EndStuck]) < 3 || ends[api.EndStuck] > 0 {
		t.Errorf("%d", ends)
	}
	for _, source := range []api.Program{draft.Primes(), draft.Divided(), draft.Chain(), draft.Down()} {
		u, _ := build.Build(source)
		for _, args := range [][]uint64{{0, 0}, {1, 3}, {6, 4}, {8, 0}, {100, 30}} {
			p.Hold(t, "a program", u, args[:len(u.Codes[0].Params)])
		}
	}
	return found
}

// NothingShared holds that what is handed in is neither changed nor kept, that what is told is new, and that the same call tells the same: R1, R2.
func (p Pass) NothingShared(t T, turns sample.Turns, given Given) {
	t.Helper()
	for range 300 {
		u, _ := given(&turns)
		was := edit.Copied(u)
		one, _ := p.Run(u)
		first := edit.Copied(one)
		if !compare.Equal(u, was) {
			t.Fatalf("what is handed in is changed: %+v", was)
		}
		compare.Wipe(one)
		two, e := p.Run(u)
		if e != api.OK || !compare.Equal(two, first) || !compare.Equal(u, was) {
			t.Fatalf("what is told is kept: %+v", was)
		}
		compare.Wipe(u)
		if !compare.Equal(two, first) {
			t.Fatalf("what is handed in is kept: %+v", was)
		}
	}
}

// ListsApart holds that no two lists of a unit, and of what is made of it, share memory, spare room too: R2.
func (p Pass) ListsApart(t T, turns sample.Turns, given Given) {
	t.Helper()
	for range 200 {
		u, _ := given(&turns)
		one, _ := p.Run(u)
		two, _ := p.Run(u)
		if !compare.Apart(edit.Copied(u), one, two) {
			t.Fatalf("lists share memory: %+v", u)
		}
		u, _ = given(&turns)
		one, _ = p.Run(u)
		if !compare.Apart(u, one) {
			t.Fatalf("lists share memory with what is handed in: %+v", one)
		}
	}
}

// EmptyLists holds that a nil list and an empty one are one: R2.
func (p Pass) EmptyLists(t T, turns sample.Turns, given Given) {
	t.Helper()
	for range 200 {
		u, args := given(&turns)
		Keeps(t, "empty lists", u, p.Made(t, "empty lists", filled(u)), args)
	}
}

// filled tells the unit with empty lists for nil ones.
func filled(u api.Unit) api.Unit {
	fill := func(l *[]int) {
		if *l == nil {
			*l = []int{}
		}
	}
	u = edit.Copied(u)
	u.Data = append([]byte{}, u.Data...)
	for i := range u.Codes {
		c := &u.Codes[i]
		fill(&c.Params)
		fill(&c.Results)
		for n := range c.Values {
			fill(&c.Values[n].Args)
		}
		for b := range c.Blocks {
			x := &c.Blocks[b]
			fill(&x.Args)
			fill(&x.Preds)
			fill(&x.Succs)
			fill(&x.List)
		}
	}
	return u
}

// AtOnce holds that calls at once do not know of each other: R1.
func (p Pass) AtOnce(t T, turns sample.Turns, given Given) {
	t.Helper()
	u, _ := given(&turns)
	want, _ := p.Run(u)
	var all sync.WaitGroup
	for range 8 {
		all.Go(func() {
			for range 50 {
				if made, e := p.Run(u); e != api.OK || !compare.Equal(made, want) {
					t.Errorf("another unit")
				}
			}
		})
	}
	all.Wait()
}
