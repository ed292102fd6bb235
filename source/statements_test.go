package source_test

import (
	"slices"
	"testing"

	"gantry/api"
	"gantry/source"
)

// steps is a run of so many steps.
func steps(n int, r api.Run) api.Run {
	r.Steps = n
	return r
}

// TestSteps: each statement takes one fuel, each round of a loop one more; with just enough it ends, with less it does not.
func TestSteps(t *testing.T) {
	one := emit(num(1))
	stop := body(leave(0))
	up := set(0, bin(api.BinAdd, loc(0), num(1)))
	done := func(n int64) api.Expr { return compare(api.BinGe, loc(0), num(n)) }
	for _, c := range []struct {
		name string
		l    []api.Stmt
		want api.Run
	}{
		{"return", body(ret(num(4))), steps(1, exits(4))},
		{"what is behind", body(ret(num(4)), one), steps(1, exits(4))},
		{"set", body(set(0, num(5)), ret(loc(0))), steps(2, exits(5))},
		{"store", body(store(fresh(to64), num(5)), ret(num(0))), steps(2, exits(0))},
		{"emit", body(one, one, ret(num(0))), steps(3, exits(0, 1, 1))},
		{"panic", body(one, quit(0), one), steps(2, panics(api.PanicUser, 1))},
		{"a term's panic", body(one, emit(bin(api.BinDiv, num(1), num(0))), ret(num(0))), steps(2, panics(api.PanicDiv, 1))},
		{"no room", body(one, set(1, row(list, num(1<<17))), ret(num(0))), steps(2, resource(1))},
		{"a large term", body(emit(bin(api.BinAdd, bin(api.BinAdd, num(1), num(2)), bin(api.BinAdd, num(3), num(4)))), ret(num(0))), steps(2, exits(0, 10))},
		{"if", body(when(con(yes, 1), body(one, one), body(quit(0))), ret(num(0))), steps(4, exits(0, 1, 1))},
		{"else", body(when(con(yes, 0), body(quit(0)), body(one)), ret(num(0))), steps(3, exits(0, 1))},
		{"if of nothing", body(when(con(yes, 1), nil, body(quit(0))), ret(num(0))), steps(2, exits(0))},
		{"else of nothing", body(when(con(yes, 0), body(quit(0)), nil), ret(num(0))), steps(2, exits(0))},
		{"a loop that is left", body(loop(leave(0)), ret(num(0))), steps(4, exits(0))},
		{"three rounds", body(loop(up, when(done(3), stop, nil)), ret(loc(0))), steps(1+3*3+1+1, exits(3))},
		{"three rounds by continue", body(loop(up, when(done(3), body(leave(0)), body(again(0))), quit(1)), ret(loc(0))), steps(1+3*4+1, exits(3))},
		{"a return out of loops", body(loop(loop(one, loop(ret(num(7)))))), steps(8, exits(7, 1))},
		{"a panic out of loops", body(loop(loop(quit(255)))), steps(5, panics(api.PanicUser+255))},
		{"out of two loops", body(loop(loop(leave(1), quit(1)), quit(2)), one, ret(num(0))), steps(7, exits(0, 1))},
		{"out of the inner one", body(loop(loop(leave(0), quit(1)), one, leave(0)), ret(num(0))), steps(8, exits(0, 1))},
		{"the outer one once more", body(loop(up, emit(loc(0)), when(done(3), stop, nil), loop(again(1), quit(1)), quit(2)), ret(num(0))), steps(1+3*4+2*3+1+1, exits(0, 1, 2, 3))},
		{"three loops", body(loop(loop(loop(up, when(done(2), body(leave(2)), body(again(1)))))), ret(loc(0))), steps(6+3+3+3+1, exits(2))},
		{"choices in choices", body(when(done(0), body(when(done(1), body(quit(0)), body(when(done(0), body(one), nil)))), nil), ret(num(0))), steps(5, exits(0, 1))},
		{"a call", body(call(1, nil), ret(num(0))), steps(4, exits(0, 9))},
	} {
		p := program(function(0, []int{i64, list}, []int{i64}, c.l...), function(0, nil, nil, emit(num(9)), ret()))
		r := runs(t, c.name, p, nil, c.want.Steps, c.want)
		runs(t, c.name+", with more", p, nil, c.want.Steps+1, c.want)
		runs(t, c.name+", with the most", p, nil, api.MaxFuel, c.want)
		for n := range c.want.Steps {
			less, e := source.Run(p, nil, n)
			if e != api.OK || less.End != api.EndFuel || less.N != 0 || less.Steps != n || !begins(less, r) {
				t.Errorf("%s: %d steps: %+v, %d", c.name, n, less, e)
			}
		}
	}
}

// begins tells whether a run of less fuel is a beginning of one of more.
func begins(less, more api.Run) bool {
	if len(less.Trace) > len(more.Trace) || !slices.Equal(less.Trace, more.Trace[:len(less.Trace)]) || len(less.Calls) > len(more.Calls) {
		return false
	}
	for i, c := range less.Calls {
		d := more.Calls[i]
		if c.Func != d.Func || !slices.Equal(c.Args, d.Args) || c.Back && (!d.Back || !slices.Equal(c.Results, d.Results)) || !c.Back && len(c.Results) > 0 {
			return false
		}
	}
	return true
}

// TestFuelEnds: EndFuel: nothing of the statement that has none is done.
func TestFuelEnds(t *testing.T) {
	runs(t, "no fuel", alone(nil, emit(num(1)), ret(num(0))), nil, 0, api.Run{End: api.EndFuel, Calls: []api.Call{{}}})
	runs(t, "no fuel for a panic", alone(nil, emit(num(1)), quit(0)), nil, 1, fuelless(1, 1))
	runs(t, "none for a wrong term", alone(nil, emit(num(1)), emit(bin(api.BinDiv, num(1), num(0))), ret(num(0))), nil, 1, fuelless(1, 1))
	runs(t, "none for a first round", alone(nil, loop(quit(0))), nil, 1, fuelless(1))
	runs(t, "none behind a first round", alone(nil, loop(quit(0))), nil, 2, fuelless(2))
	runs(t, "none for a call", alone([]int{i64}, call(0, []int{0}), ret(num(0))), nil, 0, api.Run{End: api.EndFuel, Calls: []api.Call{{}}})
	deep := program(function(0, []int{i64}, []int{i64}, call(1, []int{0}), ret(loc(0))), function(0, nil, []int{i64}, emit(num(5)), ret(num(6))))
	calls := func(n int) []api.Call {
		return [][]api.Call{{{}}, {{}, {Func: 1}}, {{}, {Func: 1, Back: true, Results: words(6)}}, {{Back: true, Results: words(6)}, {Func: 1, Back: true, Results: words(6)}}}[n]
	}
	for n, want := range []api.Run{{Calls: calls(0)}, {Calls: calls(1)}, {Calls: calls(1), Trace: words(5)}, {Calls: calls(2), Trace: words(5)}} {
		want.End, want.Steps = api.EndFuel, n
		runs(t, "into a call", deep, nil, n, want)
	}
	runs(t, "a call", deep, nil, 4, api.Run{Trace: words(5), Calls: calls(3), End: api.EndExit, N: 6, Steps: 4})
}

// TestMostFuel: a run of MaxFuel steps.
func TestMostFuel(t *testing.T) {
	p := alone([]int{u64}, loop(set(0, bin(api.BinAdd, loc(0), con(u64, 1)))))
	runs(t, "rounds", p, nil, api.MaxFuel, fuelless(api.MaxFuel))
	p = alone([]int{u64}, loop(emit(loc(0)), set(0, bin(api.BinAdd, loc(0), con(u64, 1)))))
	r, e := source.Run(p, nil, api.MaxFuel)
	if e != api.OK || r.End != api.EndFuel || r.Steps != api.MaxFuel || len(r.Trace) != api.MaxFuel/3 || r.Trace[api.MaxFuel/3-1] != api.MaxFuel/3-1 {
		t.Errorf("%d, %d, %d, %d", r.End, r.Steps, len(r.Trace), e)
	}
	p = program(function(0, []int{i64}, []int{i64}, loop(call(1, []int{0}, loc(0)))), function(1, []int{i64}, []int{i64}, ret(bin(api.BinAdd, loc(0), num(2)))))
	r, e = source.Run(p, nil, api.MaxFuel)
	last := len(r.Calls) - 1
	if e != api.OK || r.End != api.EndFuel || last != api.MaxFuel/3 || !slices.Equal(r.Calls[last].Results, words(2*uint64(last))) {
		t.Errorf("%d, %d, %d", r.End, last, e)
	}
}

// TestEmit: the trace goes on with the word, of each kind.
func TestEmit(t *testing.T) {
	p := alone(nil, emit(con(yes, 1)), emit(con(i8, -1)), emit(con(i16, -2)), emit(con(i32, -3)), emit(num(-4)), emit(con(u8, 255)), emit(con(u16, 65535)), emit(con(u32, 1<<32-1)), emit(con(u64, -1)), emit(float(otherNaN)), ret(num(0)))
	runs(t, "all kinds", p, nil, 20, exits(0, 1, minus(1), minus(2), minus(3), minus(4), 255, 65535, 1<<32-1, 1<<64-1, otherNaN))
}

// TestUserPanics: EndPanic with PanicUser + N.
func TestUserPanics(t *testing.T) {
	for n := range int64(256) {
		runs(t, "a code", alone(nil, quit(n)), nil, 1, panics(api.PanicUser+n))
	}
	p := program(function(0, nil, []int{i64}, emit(num(1)), call(1, nil), emit(num(2)), ret(num(0))), function(0, nil, nil, quit(3)))
	runs(t, "in a call", p, nil, 10, api.Run{Trace: words(1), End: api.EndPanic, N: api.PanicUser + 3, Steps: 3, Calls: []api.Call{{}, {Func: 1}}})
}

// TestSet: StmtSet of values of several words; the term has the local as it was.
func TestSet(t *testing.T) {
	p := alone([]int{pair, pair, i64},
		set(0, made(pair, con(u8, 1), num(2))), set(1, made(pair, con(u8, 3), num(4))), set(2, num(5)),
		set(0, made(pair, field(0, loc(1)), field(1, loc(0)))), set(1, loc(1)), set(2, bin(api.BinAdd, loc(2), loc(2))),
		emit(field(0, loc(0))), emit(field(1, loc(0))), emit(field(0, loc(1))), emit(field(1, loc(1))), ret(loc(2)))
	runs(t, "pairs", p, nil, 20, exits(10, 3, 2, 3, 4))
	p = alone([]int{pair, pair}, set(0, made(pair, con(u8, 1), num(2))), set(1, loc(0)), set(0, made(pair, con(u8, 9), num(9))), emit(field(0, loc(1))), ret(field(1, loc(1))))
	runs(t, "a copy", p, nil, 20, exits(2, 1))
}

// TestLoopLocals: locals go on from round to round; a function's are new in each call.
func TestLoopLocals(t *testing.T) {
	bump := set(0, bin(api.BinAdd, loc(0), num(1)))
	p := program(function(0, []int{i64}, []int{i64}, loop(bump, when(compare(api.BinEq, loc(0), num(3)), body(leave(0)), nil), call(1, nil)), ret(loc(0))),
		function(0, []int{i64, mix}, nil, bump, emit(loc(0)), emit(field(3, loc(1))), set(1, made(mix, con(yes, 1), str(""), made(pair, con(u8, 1), num(1)), con(u16, 9), null(list), made(none), con(i8, 1))), ret()))
	runs(t, "rounds", p, nil, 100, exits(3, 1, 0, 1, 0))
}
