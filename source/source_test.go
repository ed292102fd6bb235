package source_test

import (
	"math"
	"testing"

	"gantry/api"
	. "gantry/draft"
	"gantry/source"
)

// TestExamples: the chapter's.
func TestExamples(t *testing.T) {
	main := []api.Call{{Back: true, Results: words(3)}}
	runs(t, "7, 3", Alone(nil, Emit(Num(7)), Ret(Num(3))), nil, 10, api.Run{Trace: words(7), End: api.EndExit, N: 3, Steps: 2, Calls: main})
	runs(t, "a loop of nothing", Alone(nil, Loop()), nil, 5, api.Run{End: api.EndFuel, Steps: 5, Calls: []api.Call{{}}})
	runs(t, "a nil pointer", Alone(nil, Emit(Load(Null(To64))), Ret(Num(0))), nil, 5, api.Run{End: api.EndPanic, N: api.PanicNil, Steps: 1, Calls: []api.Call{{}}})
}

// TestPrograms: P10.1: programs of several functions, loops, choices, calls, memory.
func TestPrograms(t *testing.T) {
	runs(t, "primes", Primes(), words(30), 1000, exits(10, 2, 3, 5, 7, 11, 13, 17, 19, 23, 29))
	runs(t, "primes below 0", Primes(), words(minus(1)), 1000, panics(api.PanicMake))
	runs(t, "primes, too few steps", Primes(), words(30), 50, fuelless(50, 2))
	calls := []api.Call{{Args: words(30, 12), Back: true, Results: words(6)}, {Func: 1, Args: words(30, 12), Back: true, Results: words(2, 6)}, {Func: 2, Args: words(30, 12), Back: true, Results: words(6)}, {Func: 2, Args: words(12, 6), Back: true, Results: words(6)}, {Func: 2, Args: words(6, 0), Back: true, Results: words(6)}}
	runs(t, "divided", Divided(), words(30, 12), 1000, api.Run{Trace: words(6, 2), End: api.EndExit, N: 6, Steps: 14, Calls: calls})
	runs(t, "divided, below 0", Divided(), words(minus(30), 12), 1000, exits(-6, minus(6), minus(2)))
	runs(t, "divided by 0", Divided(), words(3, 0), 1000, api.Run{End: api.EndPanic, N: api.PanicDiv, Steps: 2, Calls: []api.Call{{Args: words(3, 0)}, {Func: 1, Args: words(3, 0)}}})
	runs(t, "chain", Chain(), words(5), 1000, exits(4, 'e', 'd', 'c', 'b'))
	runs(t, "chain of one", Chain(), words(2), 1000, exits(1, 'b'))
	runs(t, "chain of none", Chain(), words(1), 1000, exits(0))
	runs(t, "a chain's text is too short", Chain(), words(9), 1000, panics(api.PanicSlice))
}

// TestResult: P10.1: EndExit with the result as a signed number, and as a word among its call's.
func TestResult(t *testing.T) {
	for _, n := range []int64{0, 1, -1, math.MaxInt64, math.MinInt64} {
		want := exits(n)
		want.Steps, want.Calls = 1, []api.Call{{Back: true, Results: words(uint64(n))}}
		runs(t, "a result", Alone(nil, Ret(Num(n))), nil, 1, want)
	}
}

// TestArguments: P10.1: the function 0's parameters have its arguments, of all kinds; its other locals are 0.
func TestArguments(t *testing.T) {
	p := Program(Function(6, []int{Yes, I8, U16, I32, U64, F64, I64, U8}, []int{I64},
		Emit(Loc(0)), Emit(Loc(1)), Emit(Loc(2)), Emit(Loc(3)), Emit(Loc(4)), Emit(Loc(5)), Emit(Loc(7)), Ret(Loc(6))))
	args := words(1, minus(128), 65535, minus(1<<31), math.MaxUint64, 0x7ff0000000000001)
	want := exits(0, append(append(words(), args...), 0)...)
	want.Steps, want.Calls = 8, []api.Call{{Args: args, Back: true, Results: words(0)}}
	runs(t, "arguments", p, args, 8, want)
}

// TestWrongInputs: P10.1: check's errors ahead of all; then ErrSourceFuel. Beside an error there is nothing else.
func TestWrongInputs(t *testing.T) {
	good := Program(Function(2, []int{I8, Yes}, []int{I64}, Ret(Num(1))))
	first := func(x api.Stmt) api.Program { return Alone([]int{I64}, x, Ret(Num(1))) }
	six := Program(Function(6, make([]int, 7), []int{I64}, Ret(Num(1))))
	for _, c := range []struct {
		name string
		p    api.Program
		args []uint64
		fuel int
		want api.Errno
	}{
		{"none", good, words(127, 1), 1, api.OK},
		{"the most fuel", good, words(127, 1), api.MaxFuel, api.OK},
		{"no fuel", good, words(127, 1), 0, api.OK},
		{"fuel below 0", good, words(127, 1), -1, api.ErrSourceFuel},
		{"least fuel", good, words(127, 1), math.MinInt, api.ErrSourceFuel},
		{"one fuel too much", good, words(127, 1), api.MaxFuel + 1, api.ErrSourceFuel},
		{"far too much fuel", good, words(127, 1), math.MaxInt, api.ErrSourceFuel},
		{"no arguments", good, nil, 1, api.ErrSourceFuel},
		{"one argument", good, words(1), 1, api.ErrSourceFuel},
		{"an argument too many", good, words(1, 1, 1), 1, api.ErrSourceFuel},
		{"no word of KindI8", good, words(128, 1), 1, api.ErrSourceFuel},
		{"the least word of KindI8", good, words(minus(128), 1), 1, api.OK},
		{"below the least", good, words(minus(129), 1), 1, api.ErrSourceFuel},
		{"no bool", good, words(1, 2), 1, api.ErrSourceFuel},
		{"fuel and arguments", good, words(1), -1, api.ErrSourceFuel},
		{"arguments for locals, too", six, make([]uint64, 7), 1, api.ErrSourceFuel},
		{"six arguments", six, make([]uint64, 6), 1, api.OK},
		{"none at all", api.Program{}, nil, 1, api.ErrCheckFunc},
		{"none at all, no fuel", api.Program{}, words(1), -1, api.ErrCheckFunc},
		{"raw's", Alone(nil, Ret(Num(1)), api.Stmt{Op: -1}), nil, -1, api.ErrRawForm},
		{"types", api.Program{Types: []api.Type{{}}, Funcs: good.Funcs}, nil, -1, api.ErrCheckTypes},
		{"a wrong function 0", Program(Function(0, nil, nil, Ret())), nil, -1, api.ErrCheckFunc},
		{"a local", first(Set(1, Num(1))), words(1), 1, api.ErrCheckLocal},
		{"a type", first(Set(0, Con(U8, 1))), words(1), 1, api.ErrCheckType},
		{"a count", first(Ret()), words(1), 1, api.ErrCheckCount},
		{"a constant", first(Emit(Con(Yes, 2))), words(1), 1, api.ErrCheckConst},
		{"a field", first(Emit(Field(2, Made(Pair, Con(U8, 1), Num(1))))), words(1), 1, api.ErrCheckField},
		{"an operation", first(Emit(Bin(api.BinRem, Con(F64, 1), Con(F64, 1)))), words(1), 1, api.ErrCheckOp},
		{"a loop", first(Leave(0)), words(1), 1, api.ErrCheckLoop},
		{"no return", Alone(nil, Emit(Num(1))), words(1), 1, api.ErrCheckReturn},
	} {
		r, e := source.Run(c.p, c.args, c.fuel)
		if e != c.want || e != api.OK && !same(r, api.Run{}) || e == api.OK && r.End == api.EndNone {
			t.Errorf("%s: %+v, %d, not %d", c.name, r, e, c.want)
		}
	}
}

// TestWrongInMiddle: what never runs must check, too.
func TestWrongInMiddle(t *testing.T) {
	p := Alone(nil, Ret(Num(1)), Emit(Loc(0)))
	if r, e := source.Run(p, nil, 5); e != api.ErrCheckLocal || !same(r, api.Run{}) {
		t.Errorf("%+v, %d", r, e)
	}
}
