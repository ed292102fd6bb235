package source_test

import (
	"slices"
	"testing"

	"gantry/api"
	. "gantry/draft"
	"gantry/source"
)

// steps is a run of so many steps.
func steps(n int, r api.Run) api.Run {
	r.Steps = n
	return r
}

// TestSteps: each statement takes one fuel, each round of a loop one more; with just enough it ends, with less it does not.
func TestSteps(t *testing.T) {
	one := Emit(Num(1))
	stop := Body(Leave(0))
	up := Set(0, Bin(api.BinAdd, Loc(0), Num(1)))
	done := func(n int64) api.Expr { return Compare(api.BinGe, Loc(0), Num(n)) }
	for _, c := range []struct {
		name string
		l    []api.Stmt
		want api.Run
	}{
		{"return", Body(Ret(Num(4))), steps(1, exits(4))},
		{"what is behind", Body(Ret(Num(4)), one), steps(1, exits(4))},
		{"set", Body(Set(0, Num(5)), Ret(Loc(0))), steps(2, exits(5))},
		{"store", Body(Store(Fresh(To64), Num(5)), Ret(Num(0))), steps(2, exits(0))},
		{"emit", Body(one, one, Ret(Num(0))), steps(3, exits(0, 1, 1))},
		{"panic", Body(one, Quit(0), one), steps(2, panics(api.PanicUser, 1))},
		{"a term's panic", Body(one, Emit(Bin(api.BinDiv, Num(1), Num(0))), Ret(Num(0))), steps(2, panics(api.PanicDiv, 1))},
		{"no room", Body(one, Set(1, Row(List, Num(1<<17))), Ret(Num(0))), steps(2, resource(1))},
		{"a large term", Body(Emit(Bin(api.BinAdd, Bin(api.BinAdd, Num(1), Num(2)), Bin(api.BinAdd, Num(3), Num(4)))), Ret(Num(0))), steps(2, exits(0, 10))},
		{"if", Body(When(Con(Yes, 1), Body(one, one), Body(Quit(0))), Ret(Num(0))), steps(4, exits(0, 1, 1))},
		{"else", Body(When(Con(Yes, 0), Body(Quit(0)), Body(one)), Ret(Num(0))), steps(3, exits(0, 1))},
		{"if of nothing", Body(When(Con(Yes, 1), nil, Body(Quit(0))), Ret(Num(0))), steps(2, exits(0))},
		{"else of nothing", Body(When(Con(Yes, 0), Body(Quit(0)), nil), Ret(Num(0))), steps(2, exits(0))},
		{"a loop that is left", Body(Loop(Leave(0)), Ret(Num(0))), steps(4, exits(0))},
		{"three rounds", Body(Loop(up, When(done(3), stop, nil)), Ret(Loc(0))), steps(1+3*3+1+1, exits(3))},
		{"three rounds by continue", Body(Loop(up, When(done(3), Body(Leave(0)), Body(Again(0))), Quit(1)), Ret(Loc(0))), steps(1+3*4+1, exits(3))},
		{"a return out of loops", Body(Loop(Loop(one, Loop(Ret(Num(7)))))), steps(8, exits(7, 1))},
		{"a panic out of loops", Body(Loop(Loop(Quit(255)))), steps(5, panics(api.PanicUser+255))},
		{"out of two loops", Body(Loop(Loop(Leave(1), Quit(1)), Quit(2)), one, Ret(Num(0))), steps(7, exits(0, 1))},
		{"out of the inner one", Body(Loop(Loop(Leave(0), Quit(1)), one, Leave(0)), Ret(Num(0))), steps(8, exits(0, 1))},
		{"the outer one once more", Body(Loop(up, Emit(Loc(0)), When(done(3), stop, nil), Loop(Again(1), Quit(1)), Quit(2)), Ret(Num(0))), steps(1+3*4+2*3+1+1, exits(0, 1, 2, 3))},
		{"three loops", Body(Loop(Loop(Loop(up, When(done(2), Body(Leave(2)), Body(Again(1)))))), Ret(Loc(0))), steps(6+3+3+3+1, exits(2))},
		{"choices in choices", Body(When(done(0), Body(When(done(1), Body(Quit(0)), Body(When(done(0), Body(one), nil)))), nil), Ret(Num(0))), steps(5, exits(0, 1))},
		{"a call", Body(Call(1, nil), Ret(Num(0))), steps(4, exits(0, 9))},
	} {
		p := Program(Function(0, []int{I64, List}, []int{I64}, c.l...), Function(0, nil, nil, Emit(Num(9)), Ret()))
		r := runs(t, c.name, p, nil, c.want.Steps, c.want)
		runs(t, c.name+", with more", p, nil, c.want.Steps+1, c.want)
		runs(t, c.name+", with the most", p, nil, api.MaxFuel, c.want)
		for n := range c.want.Steps {
			less, e := source.Run(p, nil, n)
			if e != api.OK || less.End != api.EndFuel || less.N != 0 || less.Steps != n || !begins(less, r) {
				t.Errorf("%s: %d steps: %+v, %d", c.name, n, less, e)
			}
		}
	}
}

// begins tells whether a run of less fuel is a beginning of one of more.
func begins(less, more api.Run) bool {
	if len(less.Trace) > len(more.Trace) || !slices.Equal(less.Trace, more.Trace[:len(less.Trace)]) || len(less.Calls) > len(more.Calls) {
		return false
	}
	for i, c := range less.Calls {
		d := more.Calls[i]
		if c.Func != d.Func || !slices.Equal(c.Args, d.Args) || c.Back && (!d.Back || !slices.Equal(c.Results, d.Results)) || !c.Back && len(c.Results) > 0 {
			return false
		}
	}
	return true
}

// TestFuelEnds: EndFuel: nothing of the statement that has none is done.
func TestFuelEnds(t *testing.T) {
	runs(t, "no fuel", Alone(nil, Emit(Num(1)), Ret(Num(0))), nil, 0, api.Run{End: api.EndFuel, Calls: []api.Call{{}}})
	runs(t, "no fuel for a panic", Alone(nil, Emit(Num(1)), Quit(0)), nil, 1, fuelless(1, 1))
	runs(t, "none for a wrong term", Alone(nil, Emit(Num(1)), Emit(Bin(api.BinDiv, Num(1), Num(0))), Ret(Num(0))), nil, 1, fuelless(1, 1))
	runs(t, "none for a first round", Alone(nil, Loop(Quit(0))), nil, 1, fuelless(1))
	runs(t, "none behind a first round", Alone(nil, Loop(Quit(0))), nil, 2, fuelless(2))
	runs(t, "none for a call", Alone([]int{I64}, Call(0, []int{0}), Ret(Num(0))), nil, 0, api.Run{End: api.EndFuel, Calls: []api.Call{{}}})
	deep := Program(Function(0, []int{I64}, []int{I64}, Call(1, []int{0}), Ret(Loc(0))), Function(0, nil, []int{I64}, Emit(Num(5)), Ret(Num(6))))
	calls := func(n int) []api.Call {
		return [][]api.Call{{{}}, {{}, {Func: 1}}, {{}, {Func: 1, Back: true, Results: words(6)}}, {{Back: true, Results: words(6)}, {Func: 1, Back: true, Results: words(6)}}}[n]
	}
	for n, want := range []api.Run{{Calls: calls(0)}, {Calls: calls(1)}, {Calls: calls(1), Trace: words(5)}, {Calls: calls(2), Trace: words(5)}} {
		want.End, want.Steps = api.EndFuel, n
		runs(t, "into a call", deep, nil, n, want)
	}
	runs(t, "a call", deep, nil, 4, api.Run{Trace: words(5), Calls: calls(3), End: api.EndExit, N: 6, Steps: 4})
}

// TestMostFuel: a run of MaxFuel steps.
func TestMostFuel(t *testing.T) {
	p := Alone([]int{U64}, Loop(Set(0, Bin(api.BinAdd, Loc(0), Con(U64, 1)))))
	runs(t, "rounds", p, nil, api.MaxFuel, fuelless(api.MaxFuel))
	p = Alone([]int{U64}, Loop(Emit(Loc(0)), Set(0, Bin(api.BinAdd, Loc(0), Con(U64, 1)))))
	r, e := source.Run(p, nil, api.MaxFuel)
	if e != api.OK || r.End != api.EndFuel || r.Steps != api.MaxFuel || len(r.Trace) != api.MaxFuel/3 || r.Trace[api.MaxFuel/3-1] != api.MaxFuel/3-1 {
		t.Errorf("%d, %d, %d, %d", r.End, r.Steps, len(r.Trace), e)
	}
	p = Program(Function(0, []int{I64}, []int{I64}, Loop(Call(1, []int{0}, Loc(0)))), Function(1, []int{I64}, []int{I64}, Ret(Bin(api.BinAdd, Loc(0), Num(2)))))
	r, e = source.Run(p, nil, api.MaxFuel)
	last := len(r.Calls) - 1
	if e != api.OK || r.End != api.EndFuel || last != api.MaxFuel/3 || !slices.Equal(r.Calls[last].Results, words(2*uint64(last))) {
		t.Errorf("%d, %d, %d", r.End, last, e)
	}
}

// TestEmit: the trace goes on with the word, of each kind.
func TestEmit(t *testing.T) {
	p := Alone(nil, Emit(Con(Yes, 1)), Emit(Con(I8, -1)), Emit(Con(I16, -2)), Emit(Con(I32, -3)), Emit(Num(-4)), Emit(Con(U8, 255)), Emit(Con(U16, 65535)), Emit(Con(U32, 1<<32-1)), Emit(Con(U64, -1)), Emit(Float(OtherNaN)), Ret(Num(0)))
	runs(t, "all kinds", p, nil, 20, exits(0, 1, minus(1), minus(2), minus(3), minus(4), 255, 65535, 1<<32-1, 1<<64-1, OtherNaN))
}

// TestUserPanics: EndPanic with PanicUser + N.
func TestUserPanics(t *testing.T) {
	for n := range int64(256) {
		runs(t, "a code", Alone(nil, Quit(n)), nil, 1, panics(api.PanicUser+n))
	}
	p := Program(Function(0, nil, []int{I64}, Emit(Num(1)), Call(1, nil), Emit(Num(2)), Ret(Num(0))), Function(0, nil, nil, Quit(3)))
	runs(t, "in a call", p, nil, 10, api.Run{Trace: words(1), End: api.EndPanic, N: api.PanicUser + 3, Steps: 3, Calls: []api.Call{{}, {Func: 1}}})
}

// TestSet: StmtSet of values of several words; the term has the local as it was.
func TestSet(t *testing.T) {
	p := Alone([]int{Pair, Pair, I64},
		Set(0, Made(Pair, Con(U8, 1), Num(2))), Set(1, Made(Pair, Con(U8, 3), Num(4))), Set(2, Num(5)),
		Set(0, Made(Pair, Field(0, Loc(1)), Field(1, Loc(0)))), Set(1, Loc(1)), Set(2, Bin(api.BinAdd, Loc(2), Loc(2))),
		Emit(Field(0, Loc(0))), Emit(Field(1, Loc(0))), Emit(Field(0, Loc(1))), Emit(Field(1, Loc(1))), Ret(Loc(2)))
	runs(t, "pairs", p, nil, 20, exits(10, 3, 2, 3, 4))
	p = Alone([]int{Pair, Pair}, Set(0, Made(Pair, Con(U8, 1), Num(2))), Set(1, Loc(0)), Set(0, Made(Pair, Con(U8, 9), Num(9))), Emit(Field(0, Loc(1))), Ret(Field(1, Loc(1))))
	runs(t, "a copy", p, nil, 20, exits(2, 1))
}

// TestLoopLocals: locals go on from round to round; a function's are new in each call.
func TestLoopLocals(t *testing.T) {
	bump := Set(0, Bin(api.BinAdd, Loc(0), Num(1)))
	p := Program(Function(0, []int{I64}, []int{I64}, Loop(bump, When(Compare(api.BinEq, Loc(0), Num(3)), Body(Leave(0)), nil), Call(1, nil)), Ret(Loc(0))),
		Function(0, []int{I64, Mix}, nil, bump, Emit(Loc(0)), Emit(Field(3, Loc(1))), Set(1, Made(Mix, Con(Yes, 1), Str(""), Made(Pair, Con(U8, 1), Num(1)), Con(U16, 9), Null(List), Made(None), Con(I8, 1))), Ret()))
	runs(t, "rounds", p, nil, 100, exits(3, 1, 0, 1, 0))
}
