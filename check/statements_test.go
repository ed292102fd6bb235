package check

import (
	"math"
	"slices"
	"testing"

	"gantry/api"
)

// does holds statements against an error: in a function, in a choice's A and B, in a loop, behind others.
func does(t *testing.T, name string, want api.Errno, l ...api.Stmt) {
	t.Helper()
	answers(t, name, around(l...), want)
	answers(t, name+", in A", around(when(of(yes), l, nil)), want)
	answers(t, name+", in B", around(when(of(yes2), nil, l)), want)
	answers(t, name+", in both", around(when(of(yes2), body(emit(num(1))), append(body(set(0, num(1))), l...))), want)
	answers(t, name+", behind an end", around(append(body(ret()), l...)...), want)
	if want != api.ErrCheckLoop {
		answers(t, name+", in a loop", around(loop(loop(append(body(leave(0)), l...)...))), want)
	}
}

// at tells the number of the local of that type.
func at(k int) int { return slices.Index(localsHere(), k) }

// TestSet: P9.1: StmtSet: each local of each type.
func TestSet(t *testing.T) {
	for n, k := range localsHere() {
		for m, other := range localsHere() {
			want := api.ErrCheckType
			if other == k {
				want = api.OK
			}
			if e := Check(around(set(int64(n), loc(int64(m))))); e != want {
				t.Errorf("%d is %d: %d, not %d", n, m, e, want)
			}
		}
	}
	does(t, "a number", api.OK, set(0, num(1)))
	does(t, "another type", api.ErrCheckType, set(int64(at(num2)), num(1)))
	for _, n := range []int64{-1, int64(len(localsHere())), 1 << 32, math.MaxInt64, math.MinInt64} {
		does(t, "no local", api.ErrCheckLocal, set(n, num(1)))
	}
}

// TestStore: P9.1: StmtStore, StmtIf, StmtEmit: what their Args must be.
func TestStore(t *testing.T) {
	behind := map[int]int{to64: i64, toU8: u8, toPair: pair, toPair2: pair, toText: text, toSelf: toSelf, toNone: none, toPtr: toPair}
	for _, k := range localsHere() {
		for _, v := range localsHere() {
			want := api.ErrCheckType
			if to, is := behind[k]; is && to == v {
				want = api.OK
			}
			if e := Check(around(store(of(k), of(v)))); e != want {
				t.Errorf("behind %d stands %d: %d, not %d", k, v, e, want)
			}
		}
		want := api.ErrCheckType
		if k == yes || k == yes2 {
			want = api.OK
		}
		does(t, "if", want, when(of(k), body(emit(num(1))), body(emit(num(2)))))
		want = api.ErrCheckType
		if isNumber(k) || isBit(k) {
			want = api.OK
		}
		does(t, "emit", want, emit(of(k)))
	}
	does(t, "a store", api.OK, store(of(toPair), of(pair)))
	does(t, "no store", api.ErrCheckType, store(of(toPair), num(1)))
	does(t, "if with nothing", api.OK, when(of(yes), nil, nil))
}

// TestLoops: P9.1: breaks and continues of as many loops as there are, and of one more.
func TestLoops(t *testing.T) {
	for _, one := range []func(int64) api.Stmt{leave, again} {
		in := func(loops int, n int64) api.Stmt {
			x := when(of(yes), nil, body(one(n)))
			for range loops {
				x = loop(x)
			}
			return x
		}
		for loops := range 8 {
			for n := int64(-2); n < 10; n++ {
				want := api.ErrCheckLoop
				if n >= 0 && n < int64(loops) {
					want = api.OK
				}
				answers(t, "out of a loop", around(in(loops, n)), want)
			}
			for _, n := range []int64{1 << 32, math.MaxInt64, math.MinInt64} {
				answers(t, "out of no loop", around(in(loops, n)), api.ErrCheckLoop)
			}
		}
		does(t, "without a loop", api.ErrCheckLoop, one(0))
		does(t, "behind a loop", api.ErrCheckLoop, loop(), one(0))
		does(t, "behind two", api.ErrCheckLoop, loop(loop()), loop(one(0)), one(0))
		answers(t, "behind an inner one", around(loop(loop(one(1)), one(1))), api.ErrCheckLoop)
		answers(t, "behind a wrong one", around(loop(one(1)), emit(loc(99))), api.ErrCheckLoop)
	}
	for _, n := range []int64{0, 1, 127, 254, 255} {
		does(t, "a panic", api.OK, quit(n))
	}
	for _, n := range []int64{-1, 256, 257, 1 << 32, math.MaxInt64, math.MinInt64} {
		does(t, "no panic", api.ErrCheckConst, quit(n))
	}
}

// TestReturn: P9.1: StmtReturn: as many as results, of their types.
func TestReturn(t *testing.T) {
	back := func(l ...api.Expr) api.Program {
		return program(plain(), function(4, localsHere(), []int{i64, text, i64, pair}, ret(l...)))
	}
	answers(t, "all", back(num(1), of(text), of(i64), of(pair)), api.OK)
	answers(t, "none", back(), api.ErrCheckCount)
	answers(t, "too few", back(of(text), of(text), num(1)), api.ErrCheckCount)
	answers(t, "too many", back(num(1), of(text), num(1), of(pair), num(1)), api.ErrCheckCount)
	for n := range 4 {
		l := []api.Expr{num(1), of(text), of(i64), of(pair)}
		l[n] = of(num2)
		answers(t, "another type", back(l...), api.ErrCheckType)
		l[n] = loc(99)
		answers(t, "no local", back(l...), api.ErrCheckLocal)
		answers(t, "no local, and too few", back(l[:n+1]...), api.ErrCheckLocal)
	}
	does(t, "one too many", api.ErrCheckCount, ret(num(1)))
	answers(t, "none of one", program(function(0, nil, []int{i64}, ret())), api.ErrCheckCount)
}

// caller is a program whose function 1 calls the function 2, of two parameters and three results; there are four functions.
func caller(s api.Stmt) api.Program {
	f := function(2, []int{i64, text, yes}, []int{u8, pair, u8}, quit(0))
	return program(plain(), function(4, append(localsHere()[:29:29], u8), nil, s, ret()), f, plain())
}

// TestCall: P9.1: StmtCall: the function, how many, the Args' types, the Dst; in this order.
func TestCall(t *testing.T) {
	const other = 29 // a local of the type u8, too
	first, second := at(u8), at(pair)
	dst := func(l ...int) []int { return l }
	right := dst(first, second, other)
	answers(t, "a call", caller(call(2, right, num(1), of(text))), api.OK)
	answers(t, "turned round", caller(call(2, dst(other, second, first), num(1), of(text))), api.OK)
	answers(t, "of itself", caller(call(1, nil, of(i64), of(yes), of(yes2), of(num2))), api.OK)
	answers(t, "of the function 0", caller(call(0, dst(0))), api.OK)
	answers(t, "of the last one", caller(call(3, dst(0))), api.OK)
	for _, n := range []int64{-1, 4, 5, 1 << 32, 1<<32 + 2, math.MaxInt64, math.MinInt64} {
		answers(t, "no function", caller(call(n, right, num(1), of(text))), api.ErrCheckFunc)
		answers(t, "no function, too few", caller(call(n, nil)), api.ErrCheckFunc)
		answers(t, "no local, no function", caller(call(n, nil, loc(99))), api.ErrCheckLocal)
	}
	for _, args := range [][]api.Expr{nil, {num(1)}, {of(f64)}, {num(1), of(text), num(1)}} {
		answers(t, "another number of Args", caller(call(2, right, args...)), api.ErrCheckCount)
	}
	for _, l := range [][]int{nil, {first}, {first, second}, {first, second, other, 0}, {99, 99}} {
		answers(t, "another number of Dst", caller(call(2, l, num(1), of(text))), api.ErrCheckCount)
		answers(t, "another number of Dst, other types", caller(call(2, l, num(1), num(1))), api.ErrCheckCount)
	}
	for _, l := range [][]int{right, {first, first, first}, {99, 98, 97}, {0, 1, 2}} {
		answers(t, "another type", caller(call(2, l, of(num2), of(text))), api.ErrCheckType)
		answers(t, "another type", caller(call(2, l, num(1), of(text2))), api.ErrCheckType)
		answers(t, "turned round", caller(call(2, l, of(text), num(1))), api.ErrCheckType)
	}
	for _, l := range [][]int{{99, second, other}, {first, second, 30}, {first, second, first}, {first, first, other}, {0, 0, other}, {0, 1, 30}, {30, 0, 1}, {0, 1, 0}, {first, second, math.MaxInt32}} {
		answers(t, "no local, or one twice", caller(call(2, l, num(1), of(text))), api.ErrCheckLocal)
	}
	for _, l := range [][]int{{0, second, other}, {first, other, second}, {first, second, at(u82)}, {second, first, other}, {0, 1, 2}} {
		answers(t, "of another type", caller(call(2, l, num(1), of(text))), api.ErrCheckType)
	}
	answers(t, "a Dst below 0", caller(call(2, dst(first, second, -1), num(1), of(text))), api.ErrRawForm)
}

// TestStatementOrder: P9.1: of a statement what the chapter lists first: what it must not have, how many Args, these from left to right, the row; then A, then B.
func TestStatementOrder(t *testing.T) {
	bad, few := loc(99), un(api.UnNeg, loc(0))
	few.Args = nil
	for op := api.StmtSet; op <= api.StmtCall; op++ {
		n := op == api.StmtSet || op == api.StmtBreak || op == api.StmtContinue || op == api.StmtPanic || op == api.StmtCall
		want := map[int]int{api.StmtSet: 1, api.StmtStore: 2, api.StmtIf: 1, api.StmtEmit: 1, api.StmtReturn: -1, api.StmtCall: -1}[op]
		for args := range 4 {
			x := api.Stmt{Op: op, Args: []api.Expr{few, bad, bad, bad}[:args]}
			has := func(is bool, change func(*api.Stmt)) {
				with := x
				change(&with)
				if !is {
					answers(t, "what it has not", around(with), api.ErrCheckOp)
				}
			}
			has(n, func(s *api.Stmt) { s.N = 1 })
			has(n, func(s *api.Stmt) { s.N = -1 })
			has(op == api.StmtCall, func(s *api.Stmt) { s.Dst = []int{0} })
			has(op == api.StmtIf || op == api.StmtLoop, func(s *api.Stmt) { s.A = body(ret()) })
			has(op == api.StmtIf, func(s *api.Stmt) { s.B = body(ret()) })
			if n {
				x.N = 999
			}
			switch {
			case want >= 0 && args != want:
				does(t, "another number of Args", api.ErrCheckCount, x)
			case args > 0:
				does(t, "the first Arg", api.ErrCheckCount, x)
				x.Args = append([]api.Expr{bad}, few, few)[:args:args]
				does(t, "the first Arg", api.ErrCheckLocal, x)
				if args > 1 {
					x.Args = append([]api.Expr{of(none)}, few, bad)[:args:args]
					does(t, "the second Arg", api.ErrCheckCount, x)
				}
			}
		}
	}
	for _, op := range []int{api.StmtNone, api.StmtCall + 1, 99, math.MaxInt32} {
		does(t, "no Op", api.ErrCheckOp, api.Stmt{Op: op, Args: []api.Expr{bad}, A: body(quit(-1))})
	}
	answers(t, "an Op below 0", around(api.Stmt{Op: -1}), api.ErrRawForm)
	does(t, "the row, then A", api.ErrCheckType, when(num(1), body(quit(-1)), body(leave(9))))
	does(t, "A, then B", api.ErrCheckConst, when(of(yes), body(quit(-1)), body(leave(9))))
	does(t, "A's, then B", api.ErrCheckConst, when(of(yes), body(emit(num(1)), quit(-1)), body(leave(9))))
	does(t, "B", api.ErrCheckLoop, when(of(yes), body(emit(num(1)), quit(1)), body(loop(), leave(9))))
	does(t, "a loop's, then what follows", api.ErrCheckConst, loop(quit(-1)), emit(bad))
	does(t, "one by one", api.ErrCheckLocal, emit(bad), quit(-1))
}

// TestEnds: P9.1: lists that end, and lists that do not.
func TestEnds(t *testing.T) {
	bit, go1 := con(yes, 1), emit(num(1))
	back := ret(num(0))
	end := []api.Stmt{
		back, quit(0), loop(), loop(go1), when(bit, body(back), body(loop())), loop(back), loop(quit(1)), loop(again(0)),
		loop(loop(leave(0))), loop(loop(leave(0)), loop(loop(leave(1)))), loop(when(bit, body(loop(again(1), leave(0))), nil)),
	}
	on := []api.Stmt{
		go1, set(0, num(1)), call(0, []int{0}), when(bit, nil, nil), when(bit, body(back), nil), when(bit, nil, body(back)),
		loop(leave(0)), loop(loop(leave(1))), loop(loop(leave(0)), leave(0)), loop(loop(), leave(0)), loop(back, leave(0)),
		loop(when(bit, body(again(0)), body(leave(0)))), loop(when(bit, body(leave(0)), body(again(0)))), loop(when(bit, nil, body(loop(when(bit, body(loop(leave(2))), nil))))),
	}
	one := func(l ...api.Stmt) api.Program { return program(function(0, []int{i64}, []int{i64}, l...)) }
	holds := func(name string, does bool, l ...api.Stmt) {
		t.Helper()
		want := api.ErrCheckReturn
		if does {
			want = api.OK
		}
		answers(t, name, one(l...), want)
	}
	holds("nothing", false)
	for _, x := range on {
		holds("one that goes on", false, x)
		holds("in a choice", false, when(bit, body(back), body(x)))
		holds("in a choice", false, when(bit, body(x), body(back)))
		holds("in a loop", true, loop(x))
		holds("in a loop that is left", false, loop(when(bit, body(leave(0)), nil), x))
		for _, y := range on {
			holds("two", false, x, y)
			holds("in a choice", false, when(bit, body(x), body(y)))
		}
		for _, y := range end {
			holds("one of two", true, x, y)
			holds("one of two", true, y, x)
			holds("in a choice", false, when(bit, body(x), body(y)))
			holds("in a choice", true, when(bit, body(x, y), body(y, x)))
			holds("in a choice", true, when(bit, body(y, x), body(x, y, x)), x)
		}
	}
	for _, x := range end {
		holds("one that ends", true, x)
		holds("in a choice", true, when(bit, body(x), body(x)))
		holds("in a loop", true, loop(x))
		holds("in a loop that is left", false, loop(x, leave(0)))
		holds("in a loop that is left", false, loop(when(bit, body(x), body(leave(0)))))
	}
	answers(t, "no results", program(plain(), function(0, nil, nil)), api.ErrCheckReturn)
	answers(t, "no results", program(plain(), function(0, nil, nil, when(bit, body(ret()), nil))), api.ErrCheckReturn)
}
