// Package trial holds a pass against what chapter 17 says of all of them, for passes' tests.
package trial

import (
	"gantry/api"
	"gantry/compare"
	"gantry/ssa"
)

// T is what a test gives.
type T interface {
	Helper()
	Errorf(format string, args ...any)
	Fatalf(format string, args ...any)
}

// Pass is a pass, and what its chapter says of it alone.
type Pass struct {
	Run func(u api.Unit) (api.Unit, api.Errno)
	// Left tells what is left in a Code that the pass must not leave; nothing, if it is as it must be.
	Left func(c api.Code) string
	// Changed tells what is in a Code that the pass must not make of one; nothing, if there is none.
	Changed func(was, made api.Code) string
}

// Made tells what the pass makes of a unit that checks, and holds it against what is said of its form.
func (p Pass) Made(t T, name string, u api.Unit) api.Unit {
	t.Helper()
	if e := ssa.Check(u); e != api.OK {
		t.Fatalf("%s: not right: %d: %+v", name, e, u)
	}
	made, e := p.Run(u)
	if e != api.OK {
		t.Fatalf("%s: %d: %+v", name, e, u)
	}
	if wrong := compare.Formed(u, made); wrong != "" {
		t.Fatalf("%s: %s: %+v, made of %+v", name, wrong, made, u)
	}
	for i, c := range made.Codes {
		if left := p.Left(c); left != "" {
			t.Fatalf("%s: Code %d: %s: %+v, made of %+v", name, i, left, made, u)
		}
		if changed := p.Changed(u.Codes[i], c); changed != "" {
			t.Fatalf("%s: Code %d: %s: %+v, made of %+v", name, i, changed, made, u)
		}
	}
	return made
}

// Keeps holds the runs of a unit and of what is made of it.
func Keeps(t T, name string, u, made api.Unit, args []uint64, fuels ...int) {
	t.Helper()
	if wrong := compare.Kept(u, made, args, fuels...); wrong != "" {
		t.Fatalf("%s, %d: %s: %+v, made of %+v", name, args, wrong, made, u)
	}
}

// Hold holds the pass for one unit, and tells what it makes of it: once, and once more behind that; with several fuels for some of the arguments.
func (p Pass) Hold(t T, name string, u api.Unit, args ...[]uint64) api.Unit {
	t.Helper()
	made := p.Made(t, name, u)
	again := p.Made(t, name+", again", made)
	for i, l := range args {
		if i%5 > 0 {
			Keeps(t, name, u, made, l)
			continue
		}
		Keeps(t, name, u, made, l, 0, 1, 3, 8, 25)
		Keeps(t, name+", again", u, again, l)
	}
	return made
}

// Finds tells whether there is anything to do for the pass.
func (p Pass) Finds(u api.Unit) bool {
	for _, c := range u.Codes {
		if p.Left(c) != "" {
			return true
		}
	}
	return false
}

// Goes holds the pass for one unit, and that there was something to do.
func (p Pass) Goes(t T, name string, u api.Unit, args ...[]uint64) api.Unit {
	t.Helper()
	if !p.Finds(u) {
		t.Fatalf("%s: nothing to do: %+v", name, u)
	}
	return p.Hold(t, name, u, args...)
}

// Stays holds the pass for one unit in which there is nothing to do, and that no value and no block goes.
func (p Pass) Stays(t T, name string, u api.Unit, args ...[]uint64) {
	t.Helper()
	made := p.Hold(t, name, u, args...)
	if p.Finds(u) {
		t.Errorf("%s: something to do: %+v", name, u)
	}
	for i, c := range u.Codes {
		if many := compare.Count(made.Codes[i], api.OpNone); many != compare.Count(c, api.OpNone) || compare.Blocks(made.Codes[i]) != compare.Blocks(c) {
			t.Errorf("%s: %d values: %+v, made of %+v", name, many, made, u)
		}
	}
}

// Loses holds the pass for one unit, and that so many values go.
func (p Pass) Loses(t T, name string, u api.Unit, many int, args ...[]uint64) {
	t.Helper()
	if many == 0 {
		p.Stays(t, name, u, args...)
		return
	}
	made := p.Goes(t, name, u, args...)
	gone := 0
	for i, c := range u.Codes {
		gone += compare.Count(c, api.OpNone) - compare.Count(made.Codes[i], api.OpNone)
	}
	if gone != many {
		t.Errorf("%s: %d values go, not %d: %+v, made of %+v", name, gone, many, made, u)
	}
}
