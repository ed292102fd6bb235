package source_test

import (
	"slices"
	"testing"

	"gantry/api"
	"gantry/source"
)

// TestCallWords: arguments and results of all types, word by word, in order; Dst in any order.
func TestCallWords(t *testing.T) {
	kinds := []int{mix, text, i8, none, f64, list, pair, yes}
	x := made(mix, con(yes, 1), str("abc"), made(pair, con(u8, 2), num(-3)), con(u16, 4), null(list), made(none), con(i8, -5))
	args := []api.Expr{x, str("defgh"), con(i8, -6), made(none), float(inf), row(list, num(7)), made(pair, con(u8, 8), num(9)), con(yes, 1)}
	var back []api.Expr
	var dst, locals, turned []int
	for i := range kinds {
		back = append(back, loc(int64(len(kinds)-1-i)))
		turned = append(turned, kinds[len(kinds)-1-i])
		dst = append(dst, len(kinds)-1-i)
		locals = append(locals, kinds[i])
	}
	p := program(
		function(0, append(locals, i64), []int{i64}, call(1, dst, args...), call(2, nil, loc(0), loc(1), loc(2), loc(3), loc(4), loc(5), loc(6), loc(7)), ret(loc(8))),
		function(8, append(slices.Clone(kinds), pair), turned, ret(back...)),
		function(8, kinds, nil, ret()))
	r, e := source.Run(p, nil, 100)
	given := words(1, api.DataBase, 3, 2, minus(3), 4, 0, 0, minus(5), api.DataBase+3, 5, minus(6), inf, api.DataBase+8, 7, 8, 9, 1)
	told := words(1, 8, 9, api.DataBase+8, 7, inf, minus(6), api.DataBase+3, 5, 1, api.DataBase, 3, 2, minus(3), 4, 0, 0, minus(5))
	want := api.Run{End: api.EndExit, Steps: 5, Calls: []api.Call{{Back: true, Results: words(0)}, {Func: 1, Args: given, Back: true, Results: told}, {Func: 2, Args: given, Back: true}}}
	if e != api.OK || !same(r, want) {
		t.Errorf("%+v, %d, not %+v", r, e, want)
	}
}

// TestManyWords: as many parameters and results, of as many words, as may be.
func TestManyWords(t *testing.T) {
	var args []api.Expr
	var given []uint64
	var dst []int
	for i := range api.MaxParams {
		var l []api.Expr
		for n := range api.MaxWords {
			given = append(given, uint64(100*i+n))
			l = append(l, num(int64(100*i+n)))
		}
		args, dst = append(args, made(full, l...)), append(dst, i)
	}
	fulls := slices.Repeat([]int{full}, api.MaxParams)
	var back []api.Expr
	for i := range fulls {
		back = append(back, loc(int64(i)))
	}
	p := program(function(0, fulls, []int{i64}, call(1, dst, args...), ret(field(15, loc(7)))), function(8, append(slices.Clone(fulls), i64), fulls, ret(back...)))
	want := api.Run{End: api.EndExit, N: 715, Steps: 3, Calls: []api.Call{{Back: true, Results: words(715)}, {Func: 1, Args: given, Back: true, Results: given}}}
	runs(t, "all", p, nil, 3, want)
}

// TestCallOrder: calls in the order in which they began; Args are worked out ahead; what is away when the run ends has not come back.
func TestCallOrder(t *testing.T) {
	p := program(
		function(1, []int{i64, i64}, []int{i64}, call(1, []int{1}, loc(0)), call(2, []int{1}, loc(1)), emit(loc(1)), call(1, []int{0}, num(0)), ret(num(9))),
		function(1, []int{i64, i64}, []int{i64}, call(2, []int{1}, bin(api.BinAdd, loc(0), num(1))), ret(bin(api.BinDiv, num(100), bin(api.BinSub, loc(1), num(2))))),
		function(1, []int{i64}, []int{i64}, ret(bin(api.BinMul, loc(0), num(2)))))
	one := func(f int, arg, result uint64) api.Call {
		return api.Call{Func: f, Args: words(arg), Back: true, Results: words(result)}
	}
	away := func(f int, arg uint64) api.Call { return api.Call{Func: f, Args: words(arg)} }
	runs(t, "by 0 in the end", p, words(4), 100, api.Run{Trace: words(24), End: api.EndPanic, N: api.PanicDiv, Steps: 11,
		Calls: []api.Call{away(0, 4), one(1, 4, 12), one(2, 5, 10), one(2, 12, 24), away(1, 0), one(2, 1, 2)}})
	runs(t, "by 0 at first", p, words(0), 100, api.Run{End: api.EndPanic, N: api.PanicDiv, Steps: 4, Calls: []api.Call{away(0, 0), away(1, 0), one(2, 1, 2)}})
	runs(t, "by fuel", p, words(4), 2, api.Run{End: api.EndFuel, Steps: 2, Calls: []api.Call{away(0, 4), away(1, 4), away(2, 5)}})
	p = program(function(0, nil, []int{i64}, call(1, nil, num(1), bin(api.BinDiv, num(1), num(0))), ret(num(0))), function(2, []int{i64, i64}, nil, ret()))
	runs(t, "an argument's panic", p, nil, 9, api.Run{End: api.EndPanic, N: api.PanicDiv, Steps: 1, Calls: []api.Call{{}}})
	p = program(function(0, nil, []int{i64}, call(1, nil, bin(api.BinShl, num(1), num(-1)), bin(api.BinDiv, num(1), num(0))), ret(num(0))), function(2, []int{i64, i64}, nil, ret()))
	runs(t, "the first argument's panic", p, nil, 9, api.Run{End: api.EndPanic, N: api.PanicShift, Steps: 1, Calls: []api.Call{{}}})
}

// TestOwnLocals: a function's locals are its own: a call changes no other's but Dst, and those when it is back.
func TestOwnLocals(t *testing.T) {
	p := program(
		function(0, []int{i64, i64, pair, i64}, []int{i64},
			set(0, num(1)), set(1, num(2)), set(2, made(pair, con(u8, 3), num(4))), set(3, num(5)),
			call(1, []int{1}, loc(0), loc(2)), emit(loc(0)), emit(loc(1)), emit(field(0, loc(2))), emit(field(1, loc(2))), emit(loc(3)),
			call(2, []int{3, 0}, loc(0), loc(3)), emit(loc(0)), ret(loc(3))),
		function(2, []int{i64, pair, i64}, []int{i64}, set(0, num(70)), set(1, made(pair, con(u8, 71), num(72))), set(2, num(73)), ret(bin(api.BinAdd, loc(0), loc(2)))),
		function(2, []int{i64, i64}, []int{i64, i64}, ret(loc(0), loc(1))))
	runs(t, "locals", p, nil, 100, exits(1, 1, 143, 3, 4, 5, 5))
}

// TestRecursion: a function that calls itself has locals of its own each time; also the function 0.
func TestRecursion(t *testing.T) {
	fib := program(
		function(1, []int{u8, i64}, []int{i64}, call(1, []int{1}, as(i64, loc(0))), ret(loc(1))),
		function(1, []int{i64, i64, i64}, []int{i64},
			when(compare(api.BinLt, loc(0), num(2)), body(ret(loc(0))), nil),
			call(1, []int{1}, bin(api.BinSub, loc(0), num(1))), call(1, []int{2}, bin(api.BinSub, loc(0), num(2))), ret(bin(api.BinAdd, loc(1), loc(2)))))
	for i, want := range []int64{0, 1, 1, 2, 3, 5, 8, 13, 21, 34, 55} {
		r := runs(t, "fib", fib, words(uint64(i)), 10000, exits(want))
		if i == 10 && len(r.Calls) != 178 {
			t.Errorf("%d calls", len(r.Calls))
		}
	}
	main := program(function(1, []int{i64, i64}, []int{i64}, when(compare(api.BinEq, loc(0), num(0)), body(ret(num(0))), nil), call(0, []int{1}, bin(api.BinSub, loc(0), num(1))), emit(loc(0)), ret(bin(api.BinAdd, loc(0), loc(1)))))
	calls := []api.Call{{Args: words(2), Back: true, Results: words(3)}, {Args: words(1), Back: true, Results: words(1)}, {Args: words(0), Back: true, Results: words(0)}}
	runs(t, "the function 0", main, words(2), 100, api.Run{Trace: words(1, 2), End: api.EndExit, N: 3, Steps: 10, Calls: calls})
}

// down calls itself so many times, with a word that is one less each time; it tells how often it was called.
func down() api.Program {
	return program(
		function(1, []int{i64, i64}, []int{i64}, call(1, []int{1}, loc(0)), emit(num(1)), ret(loc(1))),
		function(1, []int{i64, i64}, []int{i64}, when(compare(api.BinLe, loc(0), num(1)), body(ret(num(1))), nil), call(1, []int{1}, bin(api.BinSub, loc(0), num(1))), ret(bin(api.BinAdd, loc(1), num(1)))))
}

// TestAway: 1024 functions may be away, the function 0 among them; a call in which there are more ends the run. It has begun.
func TestAway(t *testing.T) {
	r := runs(t, "1024", down(), words(1023), 10000, steps(3+3*1022+2, exits(1023, 1)))
	if len(r.Calls) != 1024 {
		t.Errorf("%d calls", len(r.Calls))
	}
	for i, c := range r.Calls {
		if i > 0 && (c.Func != 1 || !c.Back || !slices.Equal(c.Args, words(uint64(1024-i))) || !slices.Equal(c.Results, c.Args)) {
			t.Fatalf("call %d: %+v", i, c)
		}
	}
	r = runs(t, "1025", down(), words(1024), 10000, steps(1+2*1023, resource()))
	if len(r.Calls) != 1025 {
		t.Errorf("%d calls", len(r.Calls))
	}
	for i, c := range r.Calls {
		if i > 0 && (c.Func != 1 || c.Back || !slices.Equal(c.Args, words(uint64(1025-i))) || len(c.Results) > 0) {
			t.Fatalf("call %d: %+v", i, c)
		}
	}
	endless := program(function(0, nil, []int{i64}, call(1, nil), ret(num(0))), function(0, nil, nil, call(1, nil), ret()))
	runs(t, "endless", endless, nil, api.MaxFuel, steps(1024, resource()))
	runs(t, "endless, just enough fuel", endless, nil, 1024, steps(1024, resource()))
	runs(t, "endless, less fuel", endless, nil, 1023, fuelless(1023))
	zero := program(function(0, []int{i64}, []int{i64}, call(0, []int{0}), ret(num(0))))
	runs(t, "the function 0", zero, nil, api.MaxFuel, steps(1024, resource()))
}

// TestAwayAndBack: what is back is away no more: many calls, one behind the other, at most two deep, and again as deep as may be.
func TestAwayAndBack(t *testing.T) {
	p := program(
		function(1, []int{i64, i64, i64}, []int{i64}, loop(when(compare(api.BinEq, loc(1), num(5)), body(leave(0)), nil), set(1, bin(api.BinAdd, loc(1), num(1))), call(1, []int{2}, loc(0)), emit(loc(2))), ret(loc(1))),
		down().Funcs[1])
	runs(t, "again and again", p, words(1023), 100000, exits(5, 1023, 1023, 1023, 1023, 1023))
	runs(t, "one more", p, words(1024), 100000, resource())
	runs(t, "short ones", p, words(1), 100000, exits(5, 1, 1, 1, 1, 1))
	p.Funcs[0].Body[0].A[0].Args[0].Args[1].N = 3000
	r := runs(t, "3000", p, words(1), 100000, exits(3000, slices.Repeat(words(1), 3000)...))
	if len(r.Calls) != 3001 {
		t.Errorf("%d calls", len(r.Calls))
	}
}

// TestDeepArguments: the Args of a call that is one too many are worked out ahead.
func TestDeepArguments(t *testing.T) {
	p := program(
		function(0, nil, []int{i64}, call(1, nil, num(1023), num(1)), ret(num(0))),
		function(2, []int{i64, i64}, nil, call(1, nil, bin(api.BinSub, loc(0), num(1)), bin(api.BinDiv, num(1), bin(api.BinSub, loc(0), num(1)))), ret()))
	runs(t, "a panic ahead", p, nil, 10000, steps(1024, panics(api.PanicDiv)))
}

// TestSharedHeap: pointers and slices go through calls; what is stored there is seen by all.
func TestSharedHeap(t *testing.T) {
	p := program(
		function(0, []int{toPair, list, text}, []int{i64},
			set(0, fresh(toPair)), set(1, row(list, num(3))), call(1, []int{2}, loc(0), slice(loc(1), num(1), num(3)), str("abcdef")),
			emit(load(addr(to64, 1, loc(0)))), emit(load(elem(to64, loc(1), num(0)))), emit(load(elem(to64, loc(1), num(2)))), emit(index(loc(2), num(0))), ret(length(loc(2)))),
		function(3, []int{toPair, list, text}, []int{text}, store(addr(to64, 1, loc(0)), num(55)), store(elem(to64, loc(1), num(1)), num(66)), ret(slice(loc(2), num(3), num(5)))))
	runs(t, "heap", p, nil, 100, exits(2, 55, 0, 66, 'd'))
}
