package source_test

import (
	"slices"
	"testing"

	"gantry/api"
	. "gantry/draft"
	"gantry/source"
)

// TestCallWords: arguments and results of all types, word by word, in order; Dst in any order.
func TestCallWords(t *testing.T) {
	kinds := []int{Mix, Text, I8, None, F64, List, Pair, Yes}
	x := Made(Mix, Con(Yes, 1), Str("abc"), Made(Pair, Con(U8, 2), Num(-3)), Con(U16, 4), Null(List), Made(None), Con(I8, -5))
	args := []api.Expr{x, Str("defgh"), Con(I8, -6), Made(None), Float(Inf), Row(List, Num(7)), Made(Pair, Con(U8, 8), Num(9)), Con(Yes, 1)}
	var back []api.Expr
	var dst, locals, turned []int
	for i := range kinds {
		back = append(back, Loc(int64(len(kinds)-1-i)))
		turned = append(turned, kinds[len(kinds)-1-i])
		dst = append(dst, len(kinds)-1-i)
		locals = append(locals, kinds[i])
	}
	p := Program(
		Function(0, append(locals, I64), []int{I64}, Call(1, dst, args...), Call(2, nil, Loc(0), Loc(1), Loc(2), Loc(3), Loc(4), Loc(5), Loc(6), Loc(7)), Ret(Loc(8))),
		Function(8, append(slices.Clone(kinds), Pair), turned, Ret(back...)),
		Function(8, kinds, nil, Ret()))
	r, e := source.Run(p, nil, 100)
	given := words(1, api.DataBase, 3, 2, minus(3), 4, 0, 0, minus(5), api.DataBase+3, 5, minus(6), Inf, api.DataBase+8, 7, 8, 9, 1)
	told := words(1, 8, 9, api.DataBase+8, 7, Inf, minus(6), api.DataBase+3, 5, 1, api.DataBase, 3, 2, minus(3), 4, 0, 0, minus(5))
	want := api.Run{End: api.EndExit, Steps: 5, Calls: []api.Call{{Back: true, Results: words(0)}, {Func: 1, Args: given, Back: true, Results: told}, {Func: 2, Args: given, Back: true}}}
	if e != api.OK || !same(r, want) {
		t.Errorf("%+v, %d, not %+v", r, e, want)
	}
}

// TestManyWords: as many parameters and results, of as many words, as may be.
func TestManyWords(t *testing.T) {
	var args []api.Expr
	var given []uint64
	var dst []int
	for i := range api.MaxParams {
		var l []api.Expr
		for n := range api.MaxWords {
			given = append(given, uint64(100*i+n))
			l = append(l, Num(int64(100*i+n)))
		}
		args, dst = append(args, Made(Full, l...)), append(dst, i)
	}
	fulls := slices.Repeat([]int{Full}, api.MaxParams)
	var back []api.Expr
	for i := range fulls {
		back = append(back, Loc(int64(i)))
	}
	p := Program(Function(0, fulls, []int{I64}, Call(1, dst, args...), Ret(Field(15, Loc(7)))), Function(8, append(slices.Clone(fulls), I64), fulls, Ret(back...)))
	want := api.Run{End: api.EndExit, N: 715, Steps: 3, Calls: []api.Call{{Back: true, Results: words(715)}, {Func: 1, Args: given, Back: true, Results: given}}}
	runs(t, "all", p, nil, 3, want)
}

// TestCallOrder: calls in the order in which they began; Args are worked out ahead; what is away when the run ends has not come back.
func TestCallOrder(t *testing.T) {
	p := Program(
		Function(1, []int{I64, I64}, []int{I64}, Call(1, []int{1}, Loc(0)), Call(2, []int{1}, Loc(1)), Emit(Loc(1)), Call(1, []int{0}, Num(0)), Ret(Num(9))),
		Function(1, []int{I64, I64}, []int{I64}, Call(2, []int{1}, Bin(api.BinAdd, Loc(0), Num(1))), Ret(Bin(api.BinDiv, Num(100), Bin(api.BinSub, Loc(1), Num(2))))),
		Function(1, []int{I64}, []int{I64}, Ret(Bin(api.BinMul, Loc(0), Num(2)))))
	one := func(f int, arg, result uint64) api.Call {
		return api.Call{Func: f, Args: words(arg), Back: true, Results: words(result)}
	}
	away := func(f int, arg uint64) api.Call { return api.Call{Func: f, Args: words(arg)} }
	runs(t, "by 0 in the end", p, words(4), 100, api.Run{Trace: words(24), End: api.EndPanic, N: api.PanicDiv, Steps: 11,
		Calls: []api.Call{away(0, 4), one(1, 4, 12), one(2, 5, 10), one(2, 12, 24), away(1, 0), one(2, 1, 2)}})
	runs(t, "by 0 at first", p, words(0), 100, api.Run{End: api.EndPanic, N: api.PanicDiv, Steps: 4, Calls: []api.Call{away(0, 0), away(1, 0), one(2, 1, 2)}})
	runs(t, "by fuel", p, words(4), 2, api.Run{End: api.EndFuel, Steps: 2, Calls: []api.Call{away(0, 4), away(1, 4), away(2, 5)}})
	p = Program(Function(0, nil, []int{I64}, Call(1, nil, Num(1), Bin(api.BinDiv, Num(1), Num(0))), Ret(Num(0))), Function(2, []int{I64, I64}, nil, Ret()))
	runs(t, "an argument's panic", p, nil, 9, api.Run{End: api.EndPanic, N: api.PanicDiv, Steps: 1, Calls: []api.Call{{}}})
	p = Program(Function(0, nil, []int{I64}, Call(1, nil, Bin(api.BinShl, Num(1), Num(-1)), Bin(api.BinDiv, Num(1), Num(0))), Ret(Num(0))), Function(2, []int{I64, I64}, nil, Ret()))
	runs(t, "the first argument's panic", p, nil, 9, api.Run{End: api.EndPanic, N: api.PanicShift, Steps: 1, Calls: []api.Call{{}}})
}

// TestOwnLocals: a function's locals are its own: a call changes no other's but Dst, and those when it is back.
func TestOwnLocals(t *testing.T) {
	p := Program(
		Function(0, []int{I64, I64, Pair, I64}, []int{I64},
			Set(0, Num(1)), Set(1, Num(2)), Set(2, Made(Pair, Con(U8, 3), Num(4))), Set(3, Num(5)),
			Call(1, []int{1}, Loc(0), Loc(2)), Emit(Loc(0)), Emit(Loc(1)), Emit(Field(0, Loc(2))), Emit(Field(1, Loc(2))), Emit(Loc(3)),
			Call(2, []int{3, 0}, Loc(0), Loc(3)), Emit(Loc(0)), Ret(Loc(3))),
		Function(2, []int{I64, Pair, I64}, []int{I64}, Set(0, Num(70)), Set(1, Made(Pair, Con(U8, 71), Num(72))), Set(2, Num(73)), Ret(Bin(api.BinAdd, Loc(0), Loc(2)))),
		Function(2, []int{I64, I64}, []int{I64, I64}, Ret(Loc(0), Loc(1))))
	runs(t, "locals", p, nil, 100, exits(1, 1, 143, 3, 4, 5, 5))
}

// TestRecursion: a function that calls itself has locals of its own each time; also the function 0.
func TestRecursion(t *testing.T) {
	fib := Program(
		Function(1, []int{U8, I64}, []int{I64}, Call(1, []int{1}, As(I64, Loc(0))), Ret(Loc(1))),
		Function(1, []int{I64, I64, I64}, []int{I64},
			When(Compare(api.BinLt, Loc(0), Num(2)), Body(Ret(Loc(0))), nil),
			Call(1, []int{1}, Bin(api.BinSub, Loc(0), Num(1))), Call(1, []int{2}, Bin(api.BinSub, Loc(0), Num(2))), Ret(Bin(api.BinAdd, Loc(1), Loc(2)))))
	for i, want := range []int64{0, 1, 1, 2, 3, 5, 8, 13, 21, 34, 55} {
		r := runs(t, "fib", fib, words(uint64(i)), 10000, exits(want))
		if i == 10 && len(r.Calls) != 178 {
			t.Errorf("%d calls", len(r.Calls))
		}
	}
	main := Program(Function(1, []int{I64, I64}, []int{I64}, When(Compare(api.BinEq, Loc(0), Num(0)), Body(Ret(Num(0))), nil), Call(0, []int{1}, Bin(api.BinSub, Loc(0), Num(1))), Emit(Loc(0)), Ret(Bin(api.BinAdd, Loc(0), Loc(1)))))
	calls := []api.Call{{Args: words(2), Back: true, Results: words(3)}, {Args: words(1), Back: true, Results: words(1)}, {Args: words(0), Back: true, Results: words(0)}}
	runs(t, "the function 0", main, words(2), 100, api.Run{Trace: words(1, 2), End: api.EndExit, N: 3, Steps: 10, Calls: calls})
}

// TestAway: 1024 functions may be away, the function 0 among them; a call in which there are more ends the run. It has begun.
func TestAway(t *testing.T) {
	r := runs(t, "1024", Down(), words(1023), 10000, steps(3+3*1022+2, exits(1023, 1)))
	if len(r.Calls) != 1024 {
		t.Errorf("%d calls", len(r.Calls))
	}
	for i, c := range r.Calls {
		if i > 0 && (c.Func != 1 || !c.Back || !slices.Equal(c.Args, words(uint64(1024-i))) || !slices.Equal(c.Results, c.Args)) {
			t.Fatalf("call %d: %+v", i, c)
		}
	}
	r = runs(t, "1025", Down(), words(1024), 10000, steps(1+2*1023, resource()))
	if len(r.Calls) != 1025 {
		t.Errorf("%d calls", len(r.Calls))
	}
	for i, c := range r.Calls {
		if i > 0 && (c.Func != 1 || c.Back || !slices.Equal(c.Args, words(uint64(1025-i))) || len(c.Results) > 0) {
			t.Fatalf("call %d: %+v", i, c)
		}
	}
	endless := Program(Function(0, nil, []int{I64}, Call(1, nil), Ret(Num(0))), Function(0, nil, nil, Call(1, nil), Ret()))
	runs(t, "endless", endless, nil, api.MaxFuel, steps(1024, resource()))
	runs(t, "endless, just enough fuel", endless, nil, 1024, steps(1024, resource()))
	runs(t, "endless, less fuel", endless, nil, 1023, fuelless(1023))
	zero := Program(Function(0, []int{I64}, []int{I64}, Call(0, []int{0}), Ret(Num(0))))
	runs(t, "the function 0", zero, nil, api.MaxFuel, steps(1024, resource()))
}

// TestAwayAndBack: what is back is away no more: many calls, one behind the other, at most two deep, and again as deep as may be.
func TestAwayAndBack(t *testing.T) {
	p := Program(
		Function(1, []int{I64, I64, I64}, []int{I64}, Loop(When(Compare(api.BinEq, Loc(1), Num(5)), Body(Leave(0)), nil), Set(1, Bin(api.BinAdd, Loc(1), Num(1))), Call(1, []int{2}, Loc(0)), Emit(Loc(2))), Ret(Loc(1))),
		Down().Funcs[1])
	runs(t, "again and again", p, words(1023), 100000, exits(5, 1023, 1023, 1023, 1023, 1023))
	runs(t, "one more", p, words(1024), 100000, resource())
	runs(t, "short ones", p, words(1), 100000, exits(5, 1, 1, 1, 1, 1))
	p.Funcs[0].Body[0].A[0].Args[0].Args[1].N = 3000
	r := runs(t, "3000", p, words(1), 100000, exits(3000, slices.Repeat(words(1), 3000)...))
	if len(r.Calls) != 3001 {
		t.Errorf("%d calls", len(r.Calls))
	}
}

// TestDeepArguments: the Args of a call that is one too many are worked out ahead.
func TestDeepArguments(t *testing.T) {
	p := Program(
		Function(0, nil, []int{I64}, Call(1, nil, Num(1023), Num(1)), Ret(Num(0))),
		Function(2, []int{I64, I64}, nil, Call(1, nil, Bin(api.BinSub, Loc(0), Num(1)), Bin(api.BinDiv, Num(1), Bin(api.BinSub, Loc(0), Num(1)))), Ret()))
	runs(t, "a panic ahead", p, nil, 10000, steps(1024, panics(api.PanicDiv)))
}

// TestSharedHeap: pointers and slices go through calls; what is stored there is seen by all.
func TestSharedHeap(t *testing.T) {
	p := Program(
		Function(0, []int{ToPair, List, Text}, []int{I64},
			Set(0, Fresh(ToPair)), Set(1, Row(List, Num(3))), Call(1, []int{2}, Loc(0), Slice(Loc(1), Num(1), Num(3)), Str("abcdef")),
			Emit(Load(Addr(To64, 1, Loc(0)))), Emit(Load(Elem(To64, Loc(1), Num(0)))), Emit(Load(Elem(To64, Loc(1), Num(2)))), Emit(Index(Loc(2), Num(0))), Ret(Length(Loc(2)))),
		Function(3, []int{ToPair, List, Text}, []int{Text}, Store(Addr(To64, 1, Loc(0)), Num(55)), Store(Elem(To64, Loc(1), Num(1)), Num(66)), Ret(Slice(Loc(2), Num(3), Num(5)))))
	runs(t, "heap", p, nil, 100, exits(2, 55, 0, 66, 'd'))
}
