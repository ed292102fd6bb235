package source_test

import (
	"math"
	"testing"

	"gantry/api"
	"gantry/source"
)

// TestExamples: the chapter's.
func TestExamples(t *testing.T) {
	main := []api.Call{{Back: true, Results: words(3)}}
	runs(t, "7, 3", alone(nil, emit(num(7)), ret(num(3))), nil, 10, api.Run{Trace: words(7), End: api.EndExit, N: 3, Steps: 2, Calls: main})
	runs(t, "a loop of nothing", alone(nil, loop()), nil, 5, api.Run{End: api.EndFuel, Steps: 5, Calls: []api.Call{{}}})
	runs(t, "a nil pointer", alone(nil, emit(load(null(to64))), ret(num(0))), nil, 5, api.Run{End: api.EndPanic, N: api.PanicNil, Steps: 1, Calls: []api.Call{{}}})
}

// primes tells the primes below its argument by a row of bools, and how many there are.
func primes() api.Program {
	at := func(i int64) api.Expr { return elem(toYes, loc(1), loc(i)) }
	up := func(n int64, by api.Expr) api.Stmt { return set(n, bin(api.BinAdd, loc(n), by)) }
	stop := func(n int64) api.Stmt { return when(compare(api.BinGe, loc(n), loc(0)), body(leave(0)), nil) }
	cross := loop(stop(3), store(at(3), con(yes, 1)), up(3, loc(2)))
	found := body(emit(loc(2)), up(4, num(1)), set(3, bin(api.BinMul, loc(2), loc(2))), cross)
	return program(function(1, []int{i64, bits, i64, i64, i64}, []int{i64},
		set(1, row(bits, loc(0))), set(2, num(2)),
		loop(stop(2), when(un(api.UnNot, load(at(2))), found, nil), up(2, num(1))),
		ret(loc(4))))
}

// divided tells the quotient and what is left, and their greatest common divisor by calls.
func divided() api.Program {
	return program(
		function(2, []int{i64, i64, i64, i64}, []int{i64},
			call(1, []int{3, 2}, loc(0), loc(1)), emit(loc(2)), emit(loc(3)), call(2, []int{2}, loc(0), loc(1)), ret(loc(2))),
		function(2, []int{i64, i64}, []int{i64, i64}, ret(bin(api.BinDiv, loc(0), loc(1)), bin(api.BinRem, loc(0), loc(1)))),
		function(2, []int{i64, i64, i64}, []int{i64},
			when(compare(api.BinEq, loc(1), num(0)), body(ret(loc(0))), body(call(2, []int{2}, loc(1), bin(api.BinRem, loc(0), loc(1))), ret(loc(2))))))
}

// chain lays a text's bytes into a chain of structs in the heap, and tells them from its last one on.
func chain() api.Program {
	const node, toNode = manyTypes, manyTypes + 2 // node: to a struct of u8, node
	p := program(function(1, []int{u8, text, i64, node, node}, []int{i64},
		set(1, slice(str("abcdefgh"), num(1), loc(0))),
		loop(
			when(compare(api.BinGe, loc(2), length(loc(1))), body(leave(0)), nil),
			set(4, fresh(node)), store(addr(toU8, 0, loc(4)), index(loc(1), loc(2))), store(addr(toNode, 1, loc(4)), loc(3)), set(3, loc(4)),
			set(2, bin(api.BinAdd, loc(2), num(1)))),
		loop(
			when(compare(api.BinEq, loc(3), null(node)), body(leave(0)), nil),
			emit(load(addr(toU8, 0, loc(3)))), set(3, load(addr(toNode, 1, loc(3))))),
		ret(loc(2))))
	p.Types = append(p.Types, ptrTo(node+1), structure(u8, node), ptrTo(node))
	return p
}

// TestPrograms: P10.1: programs of several functions, loops, choices, calls, memory.
func TestPrograms(t *testing.T) {
	runs(t, "primes", primes(), words(30), 1000, exits(10, 2, 3, 5, 7, 11, 13, 17, 19, 23, 29))
	runs(t, "primes below 0", primes(), words(minus(1)), 1000, panics(api.PanicMake))
	runs(t, "primes, too few steps", primes(), words(30), 50, fuelless(50, 2))
	calls := []api.Call{{Args: words(30, 12), Back: true, Results: words(6)}, {Func: 1, Args: words(30, 12), Back: true, Results: words(2, 6)}, {Func: 2, Args: words(30, 12), Back: true, Results: words(6)}, {Func: 2, Args: words(12, 6), Back: true, Results: words(6)}, {Func: 2, Args: words(6, 0), Back: true, Results: words(6)}}
	runs(t, "divided", divided(), words(30, 12), 1000, api.Run{Trace: words(6, 2), End: api.EndExit, N: 6, Steps: 14, Calls: calls})
	runs(t, "divided, below 0", divided(), words(minus(30), 12), 1000, exits(-6, minus(6), minus(2)))
	runs(t, "divided by 0", divided(), words(3, 0), 1000, api.Run{End: api.EndPanic, N: api.PanicDiv, Steps: 2, Calls: []api.Call{{Args: words(3, 0)}, {Func: 1, Args: words(3, 0)}}})
	runs(t, "chain", chain(), words(5), 1000, exits(4, 'e', 'd', 'c', 'b'))
	runs(t, "chain of one", chain(), words(2), 1000, exits(1, 'b'))
	runs(t, "chain of none", chain(), words(1), 1000, exits(0))
	runs(t, "a chain's text is too short", chain(), words(9), 1000, panics(api.PanicSlice))
}

// TestResult: P10.1: EndExit with the result as a signed number, and as a word among its call's.
func TestResult(t *testing.T) {
	for _, n := range []int64{0, 1, -1, math.MaxInt64, math.MinInt64} {
		want := exits(n)
		want.Steps, want.Calls = 1, []api.Call{{Back: true, Results: words(uint64(n))}}
		runs(t, "a result", alone(nil, ret(num(n))), nil, 1, want)
	}
}

// TestArguments: P10.1: the function 0's parameters have its arguments, of all kinds; its other locals are 0.
func TestArguments(t *testing.T) {
	p := program(function(6, []int{yes, i8, u16, i32, u64, f64, i64, u8}, []int{i64},
		emit(loc(0)), emit(loc(1)), emit(loc(2)), emit(loc(3)), emit(loc(4)), emit(loc(5)), emit(loc(7)), ret(loc(6))))
	args := words(1, minus(128), 65535, minus(1<<31), math.MaxUint64, 0x7ff0000000000001)
	want := exits(0, append(append(words(), args...), 0)...)
	want.Steps, want.Calls = 8, []api.Call{{Args: args, Back: true, Results: words(0)}}
	runs(t, "arguments", p, args, 8, want)
}

// TestWrongInputs: P10.1: check's errors ahead of all; then ErrSourceFuel. Beside an error there is nothing else.
func TestWrongInputs(t *testing.T) {
	good := program(function(2, []int{i8, yes}, []int{i64}, ret(num(1))))
	first := func(x api.Stmt) api.Program { return alone([]int{i64}, x, ret(num(1))) }
	six := program(function(6, make([]int, 7), []int{i64}, ret(num(1))))
	for _, c := range []struct {
		name string
		p    api.Program
		args []uint64
		fuel int
		want api.Errno
	}{
		{"none", good, words(127, 1), 1, api.OK},
		{"the most fuel", good, words(127, 1), api.MaxFuel, api.OK},
		{"no fuel", good, words(127, 1), 0, api.OK},
		{"fuel below 0", good, words(127, 1), -1, api.ErrSourceFuel},
		{"least fuel", good, words(127, 1), math.MinInt, api.ErrSourceFuel},
		{"one fuel too much", good, words(127, 1), api.MaxFuel + 1, api.ErrSourceFuel},
		{"far too much fuel", good, words(127, 1), math.MaxInt, api.ErrSourceFuel},
		{"no arguments", good, nil, 1, api.ErrSourceFuel},
		{"one argument", good, words(1), 1, api.ErrSourceFuel},
		{"an argument too many", good, words(1, 1, 1), 1, api.ErrSourceFuel},
		{"no word of KindI8", good, words(128, 1), 1, api.ErrSourceFuel},
		{"the least word of KindI8", good, words(minus(128), 1), 1, api.OK},
		{"below the least", good, words(minus(129), 1), 1, api.ErrSourceFuel},
		{"no bool", good, words(1, 2), 1, api.ErrSourceFuel},
		{"fuel and arguments", good, words(1), -1, api.ErrSourceFuel},
		{"arguments for locals, too", six, make([]uint64, 7), 1, api.ErrSourceFuel},
		{"six arguments", six, make([]uint64, 6), 1, api.OK},
		{"none at all", api.Program{}, nil, 1, api.ErrCheckFunc},
		{"none at all, no fuel", api.Program{}, words(1), -1, api.ErrCheckFunc},
		{"raw's", alone(nil, ret(num(1)), api.Stmt{Op: -1}), nil, -1, api.ErrRawForm},
		{"types", api.Program{Types: []api.Type{{}}, Funcs: good.Funcs}, nil, -1, api.ErrCheckTypes},
		{"a wrong function 0", program(function(0, nil, nil, ret())), nil, -1, api.ErrCheckFunc},
		{"a local", first(set(1, num(1))), words(1), 1, api.ErrCheckLocal},
		{"a type", first(set(0, con(u8, 1))), words(1), 1, api.ErrCheckType},
		{"a count", first(ret()), words(1), 1, api.ErrCheckCount},
		{"a constant", first(emit(con(yes, 2))), words(1), 1, api.ErrCheckConst},
		{"a field", first(emit(field(2, made(pair, con(u8, 1), num(1))))), words(1), 1, api.ErrCheckField},
		{"an operation", first(emit(bin(api.BinRem, con(f64, 1), con(f64, 1)))), words(1), 1, api.ErrCheckOp},
		{"a loop", first(leave(0)), words(1), 1, api.ErrCheckLoop},
		{"no return", alone(nil, emit(num(1))), words(1), 1, api.ErrCheckReturn},
	} {
		r, e := source.Run(c.p, c.args, c.fuel)
		if e != c.want || e != api.OK && !same(r, api.Run{}) || e == api.OK && r.End == api.EndNone {
			t.Errorf("%s: %+v, %d, not %d", c.name, r, e, c.want)
		}
	}
}

// TestWrongInMiddle: what never runs must check, too.
func TestWrongInMiddle(t *testing.T) {
	p := alone(nil, ret(num(1)), emit(loc(0)))
	if r, e := source.Run(p, nil, 5); e != api.ErrCheckLocal || !same(r, api.Run{}) {
		t.Errorf("%+v, %d", r, e)
	}
}
