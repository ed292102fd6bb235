package dead_test

import (
	"fmt"
	"testing"

	"gantry/api"
	"gantry/compare"
	"gantry/dead"
	. "gantry/hand"
	"gantry/trial"
)

var pass = trial.Pass{Run: dead.Run, Left: left, Changed: changed}

const (
	flag   = trial.Flags
	index  = trial.Index
	point  = trial.Point
	first  = trial.First
	second = trial.Second
)

// needed tells of each value whether it is needed: P19.1, from each one that is needed by itself on.
func needed(c api.Code) []bool {
	is := make([]bool, len(c.Values))
	var mark func(n int)
	mark = func(n int) {
		if is[n] {
			return
		}
		is[n] = true
		for _, a := range c.Values[n].Args {
			mark(a)
		}
	}
	for n, v := range c.Values {
		if v.Op != api.OpNone && v.Kind == Mem { // all Ops that make memory are needed
			mark(n)
		}
	}
	for _, b := range c.Blocks {
		for _, n := range b.Args {
			mark(n)
		}
	}
	return is
}

// left tells which value is left that nobody needs: P19.1.
func left(c api.Code) string {
	for n, is := range needed(c) {
		if !is && c.Values[n].Op != api.OpNone {
			return fmt.Sprintf("nobody needs the value %d: %+v", n, c.Values[n])
		}
	}
	return ""
}

// changed tells what is not there that is needed, or is not as it was: P19.1, P19.2.
func changed(was, made api.Code) string {
	if len(made.Values) > len(was.Values) || len(made.Blocks) > len(was.Blocks) {
		return "more values or blocks"
	}
	// What may not be there are holes at the end.
	made.Values = append(made.Values, make([]api.Value, len(was.Values)-len(made.Values))...)
	made.Blocks = append(made.Blocks, make([]api.Block, len(was.Blocks)-len(made.Blocks))...)
	is := needed(was)
	want := api.Code{Params: was.Params, Results: was.Results, Values: make([]api.Value, len(was.Values))}
	for n, v := range was.Values {
		if is[n] {
			want.Values[n] = v
		}
	}
	for _, b := range was.Blocks {
		var list []int
		for _, n := range b.List {
			if is[n] {
				list = append(list, n)
			}
		}
		b.List = list
		want.Blocks = append(want.Blocks, b)
	}
	if !compare.Equal(api.Unit{Codes: []api.Code{want}}, api.Unit{Codes: []api.Code{made}}) {
		return fmt.Sprintf("not as it was, %+v", want)
	}
	return ""
}

// expect holds the pass for one unit, and that of these values of its last Code some go and others stay.
func expect(t *testing.T, name string, u api.Unit, goes, stays []int, args ...[]uint64) {
	t.Helper()
	made := pass.Hold(t, name, u, args...)
	last := len(u.Codes) - 1
	back := pass.Made(t, name+", turned round", trial.Back(u)).Codes[last].Values
	for i, l := range [][]int{goes, stays} {
		for _, n := range l {
			if is := made.Codes[last].Values[n].Op != api.OpNone; is != (i == 1) {
				t.Errorf("%s: the value %d is there: %t: %+v, made of %+v", name, n, is, made, u)
			}
			if is := back[len(back)-1-n].Op != api.OpNone; is != (i == 1) {
				t.Errorf("%s, turned round: the value %d is there: %t", name, n, is)
			}
		}
	}
}

// end returns what nothing else is.
func end(m *Maker, told ...int) {
	for _, n := range told {
		trial.Tell(m, n)
	}
	m.Ret(m.Num(1 << 40))
}
