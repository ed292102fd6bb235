package check

import (
	"math"
	"slices"
	"strings"
	"testing"

	"gantry/api"
)

// The types of the programs here: of most kinds two, for types are one if they are one number.
const (
	i64 = iota
	yes
	yes2
	num2 // KindI64, too
	i8
	i16
	i32
	u8
	u82
	u16
	u32
	u64
	f64
	f642
	text
	text2
	pair  // struct of i64, u8
	none  // struct of nothing
	arr   // three i64
	holds // struct of i64, arr: no value's type
	full  // struct of MaxWords i64
	over  // struct of full, u8: no value's type
	to64  // pointers
	toU8
	toPair
	toArr
	toHolds
	toOver
	toText
	toSelf
	list // slices
	list8
	lists    // of list
	listPair // of structs
	listArr  // of what is no value's type
	toList
	toNone
	toU82
	toPair2
	toPtr    // to toPair
	manyType // how many there are
)

func kind(k int) api.Type { return api.Type{Kind: k} }

func ptrTo(i int) api.Type { return api.Type{Kind: api.KindPtr, Elem: i} }

func sliceOf(i int) api.Type { return api.Type{Kind: api.TypeSlice, Elem: i} }

func structure(l ...int) api.Type { return api.Type{Kind: api.TypeStruct, Fields: l} }

func many(n, x int) []int { return slices.Repeat([]int{x}, n) }

func typesHere() []api.Type {
	return []api.Type{
		kind(api.KindI64), kind(api.KindBool), kind(api.KindBool), kind(api.KindI64), kind(api.KindI8), kind(api.KindI16), kind(api.KindI32),
		kind(api.KindU8), kind(api.KindU8), kind(api.KindU16), kind(api.KindU32), kind(api.KindU64), kind(api.KindF64), kind(api.KindF64),
		kind(api.TypeString), kind(api.TypeString),
		structure(i64, u8), structure(), {Kind: api.TypeArray, Elem: i64, N: 3}, structure(i64, arr), structure(many(api.MaxWords, i64)...), structure(full, u8),
		ptrTo(i64), ptrTo(u8), ptrTo(pair), ptrTo(arr), ptrTo(holds), ptrTo(over), ptrTo(text), ptrTo(toSelf),
		sliceOf(i64), sliceOf(u8), sliceOf(list), sliceOf(pair), sliceOf(arr), ptrTo(list), ptrTo(none), ptrTo(u82), ptrTo(pair), ptrTo(toPair),
	}
}

// localsHere are the locals of the functions here: of these types, at these numbers.
func localsHere() []int {
	return []int{i64, yes, yes2, num2, i8, i32, u8, u64, f64, f642, text, text2, pair, none, full, to64, toU8, toPair, toArr, toHolds, toOver, toText, toSelf, list, list8, lists, listArr, toPair2, u82, toPtr, toNone, listPair}
}

// of tells the local of that type.
func of(kind int) api.Expr { return loc(int64(slices.Index(localsHere(), kind))) }

func loc(n int64) api.Expr { return api.Expr{Op: api.ExprLocal, N: n} }

func con(t int, n int64) api.Expr { return api.Expr{Op: api.ExprConst, T: t, N: n} }

func num(n int64) api.Expr { return con(i64, n) }

func term(op, t int, n int64, args ...api.Expr) api.Expr {
	return api.Expr{Op: op, T: t, N: n, Args: args}
}

func un(op int64, x api.Expr) api.Expr { return term(api.ExprUn, 0, op, x) }

func bin(op int64, x, y api.Expr) api.Expr { return term(api.ExprBin, 0, op, x, y) }

// compare tells a bool of the type yes.
func compare(op int64, x, y api.Expr) api.Expr { return term(api.ExprBin, yes, op, x, y) }

func str(s string) api.Expr { return api.Expr{Op: api.ExprStr, T: text, S: s} }

func length(x api.Expr) api.Expr { return term(api.ExprLen, i64, 0, x) }

func set(n int64, x api.Expr) api.Stmt {
	return api.Stmt{Op: api.StmtSet, N: n, Args: []api.Expr{x}}
}

func store(x, y api.Expr) api.Stmt { return api.Stmt{Op: api.StmtStore, Args: []api.Expr{x, y}} }

func emit(x api.Expr) api.Stmt { return api.Stmt{Op: api.StmtEmit, Args: []api.Expr{x}} }

func ret(l ...api.Expr) api.Stmt { return api.Stmt{Op: api.StmtReturn, Args: l} }

func when(x api.Expr, a, b []api.Stmt) api.Stmt {
	return api.Stmt{Op: api.StmtIf, Args: []api.Expr{x}, A: a, B: b}
}

func loop(l ...api.Stmt) api.Stmt { return api.Stmt{Op: api.StmtLoop, A: l} }

func leave(n int64) api.Stmt { return api.Stmt{Op: api.StmtBreak, N: n} }

func again(n int64) api.Stmt { return api.Stmt{Op: api.StmtContinue, N: n} }

func quit(n int64) api.Stmt { return api.Stmt{Op: api.StmtPanic, N: n} }

func call(f int64, dst []int, args ...api.Expr) api.Stmt {
	return api.Stmt{Op: api.StmtCall, N: f, Dst: dst, Args: args}
}

func body(l ...api.Stmt) []api.Stmt { return l }

func function(params int, locals, results []int, l ...api.Stmt) api.Func {
	return api.Func{Params: params, Locals: locals, Results: results, Body: l}
}

func program(l ...api.Func) api.Program { return api.Program{Types: typesHere(), Funcs: l} }

// plain is a function 0 that is right.
func plain() api.Func { return function(0, nil, []int{i64}, ret(num(0))) }

// around is a program whose function 1 has the locals here, no results, and these statements ahead of its end.
func around(l ...api.Stmt) api.Program {
	return program(plain(), function(4, localsHere(), nil, append(l, ret())...))
}

// answers holds Check, Data and TypeOf against the error of a program; beside it, they tell nothing.
func answers(t *testing.T, name string, p api.Program, want api.Errno) {
	t.Helper()
	if e := Check(p); e != want {
		t.Errorf("%s: Check: %d, not %d", name, e, want)
	}
	b, e := Data(p)
	if e != want {
		t.Errorf("%s: Data: %d, not %d", name, e, want)
	}
	if want != api.OK && b != nil {
		t.Errorf("%s: Data beside an error: %q", name, b)
	}
	for _, f := range []int{-1, 0, len(p.Funcs)} {
		told, e := TypeOf(p, f, num(1))
		if want != api.OK && (e != want || told != 0) {
			t.Errorf("%s: TypeOf in %d: %d, %d, not %d", name, f, told, e, want)
		}
	}
}

// TestExamples: P9.1: the chapter's own.
func TestExamples(t *testing.T) {
	l := []api.Type{kind(api.KindI64), kind(api.KindBool)}
	one := func(b ...api.Stmt) api.Program {
		return api.Program{Types: l, Funcs: []api.Func{{Results: []int{0}, Body: b}}}
	}
	bit := con(1, 1)
	answers(t, "return 0", one(ret(num(0))), api.OK)
	answers(t, "nothing", one(), api.ErrCheckReturn)
	answers(t, "a quotient of bools", one(ret(bin(api.BinDiv, bit, bit))), api.ErrCheckOp)
	answers(t, "a loop with a break", one(loop(when(bit, body(leave(0)), nil))), api.ErrCheckReturn)
	answers(t, "a loop without one", one(loop(when(bit, nil, nil))), api.OK)
}

// collatz: loops in loops, choices, breaks and continues out of both.
func collatz() api.Program {
	even := compare(api.BinEq, bin(api.BinRem, loc(1), num(2)), num(0))
	next := when(even, body(set(1, bin(api.BinDiv, loc(1), num(2)))), body(set(1, bin(api.BinAdd, bin(api.BinMul, loc(1), num(3)), num(1)))))
	done := term(api.ExprOr, 0, 0, compare(api.BinLe, loc(1), num(1)), compare(api.BinGt, loc(2), num(1000)))
	return program(function(1, []int{i64, i64, i64, yes}, []int{i64},
		loop(
			when(compare(api.BinLt, loc(0), num(1)), body(leave(0)), nil),
			set(1, loc(0)), set(3, con(yes, 0)),
			loop(
				set(3, done), when(un(api.UnNot, loc(3)), nil, body(set(0, bin(api.BinSub, loc(0), num(1))), emit(loc(2)), again(1))),
				next, set(2, bin(api.BinAdd, loc(2), num(1))), when(compare(api.BinEq, loc(2), num(77)), body(leave(1)), nil)),
		),
		ret(loc(2))))
}

// shapes: calls with several results, structs, pointers, slices, texts, panics.
func shapes() api.Program {
	elem := func(i int64) api.Expr { return term(api.ExprElem, toU8, 0, loc(1), num(i)) }
	at := term(api.ExprAddr, toU8, 1, loc(2))
	return program(
		function(2, []int{f64, u16, text, pair, list, toPair, yes2}, []int{i64},
			call(1, []int{3, 6, 2}, str("abc"), term(api.ExprMake, list8, 0, con(u16, 9)), term(api.ExprNew, toPair, 0)),
			call(2, nil), emit(loc(0)), emit(loc(6)), emit(term(api.ExprIndex, u8, 0, loc(2), loc(1))),
			set(5, term(api.ExprNil, toPair, 0)), set(4, term(api.ExprNil, list, 0)), set(4, term(api.ExprSlice, 0, 0, loc(4), num(0), loc(1))),
			when(term(api.ExprAnd, 0, 0, loc(6), term(api.ExprBin, yes2, api.BinNe, loc(5), loc(5))), body(ret(length(loc(4)))), body(quit(3)))),
		function(3, []int{text, list8, toPair, pair}, []int{pair, yes2, text},
			store(elem(0), con(u8, 255)), store(at, term(api.ExprLoad, 0, 0, elem(1))), set(3, term(api.ExprLoad, 0, 0, loc(2))),
			store(loc(2), term(api.ExprStruct, pair, 0, term(api.ExprConv, i64, 0, con(f64, -1)), term(api.ExprField, 0, 1, loc(3)))),
			ret(loc(3), term(api.ExprBin, yes2, api.BinEq, length(loc(0)), num(3)), term(api.ExprSlice, 0, 0, loc(0), num(1), num(2)))),
		function(0, nil, nil, loop(call(2, nil)), emit(num(1))))
}

// TestPrograms: P9.1, P9.2: programs of several functions, with all that there is; their texts; some terms' types.
func TestPrograms(t *testing.T) {
	answers(t, "collatz", collatz(), api.OK)
	answers(t, "shapes", shapes(), api.OK)
	if b, e := Data(shapes()); e != api.OK || string(b) != "abc" {
		t.Errorf("shapes: %q, %d", b, e)
	}
	if b, e := Data(collatz()); e != api.OK || len(b) != 0 {
		t.Errorf("collatz: %q, %d", b, e)
	}
	for _, c := range []struct {
		f, t int
		x    api.Expr
	}{
		{0, f64, loc(0)}, {0, yes2, loc(6)}, {1, text, loc(0)}, {1, pair, loc(3)}, {1, i64, term(api.ExprField, 0, 0, loc(3))}, {0, u16, bin(api.BinShl, loc(1), num(3))}, {2, f642, con(f642, 1)},
	} {
		if told, e := TypeOf(shapes(), c.f, c.x); told != c.t || e != api.OK {
			t.Errorf("%+v in %d: %d, %d, not %d", c.x, c.f, told, e, c.t)
		}
	}
	if told, e := TypeOf(shapes(), 2, loc(0)); told != 0 || e != api.ErrCheckLocal {
		t.Errorf("a local of another function: %d, %d", told, e)
	}
}

// TestData: P9.2: functions in order; a statement's Args, then A, then B; Args from left to right.
func TestData(t *testing.T) {
	eq := func(x, y string) api.Expr { return compare(api.BinEq, length(str(x)), length(str(y))) }
	s := func(x string) api.Stmt { return set(10, str(x)) }
	p := program(
		function(0, nil, []int{i64}, ret(bin(api.BinSub, length(str("a")), bin(api.BinAdd, length(str("bc")), length(str("\x00")))))),
		function(0, localsHere(), nil,
			when(eq("d", "e"), body(s("f"), when(eq("g", "h"), nil, body(s("i")))), body(s("j"), loop(s("k"), when(eq("", "l"), body(leave(0), s("m")), nil), s("n")))),
			call(2, []int{10, 11}, str("o"), term(api.ExprSlice, 0, 0, str("p"), length(str("q")), length(str("r")))), s("o"), s("o"), ret()),
		function(2, []int{text, text}, []int{text, text2}, emit(length(term(api.ExprSlice, 0, 0, term(api.ExprSlice, 0, 0, str("s"), num(0), num(1)), length(str("t")), num(1)))), ret(str("\xff\u00e9"), api.Expr{Op: api.ExprStr, T: text2, S: "u"}), ret(str("v"), term(api.ExprStr, text2, 0))))
	want := "abc\x00defghijklmnopqroost\xff\u00e9uv"
	if b, e := Data(p); e != api.OK || string(b) != want {
		t.Errorf("%q, %d, not %q", b, e, want)
	}
	p.Funcs[1], p.Funcs[2].Body[0].Op = p.Funcs[2], 0
	answers(t, "no program", p, api.ErrCheckOp)
}

// TestDataLong: P9.2: as many texts as there may be nodes, each as long as it may be.
func TestDataLong(t *testing.T) {
	var b []api.Stmt
	long := ""
	for i := range (api.MaxNodes - 2) / 2 {
		s := strings.Repeat(string(rune('a'+i%26)), api.MaxText)
		long += s
		b = append(b, set(0, str(s)))
	}
	p := program(function(0, []int{text}, []int{i64}, append(b, ret(num(0)))...))
	if b, e := Data(p); e != api.OK || string(b) != long {
		t.Errorf("%d bytes, %d", len(b), e)
	}
	p.Funcs[0].Body = append(p.Funcs[0].Body, quit(0))
	answers(t, "one node more", p, api.ErrRawMany)
}

// TestTypeOf: P9.2: a function that is none; Check's error ahead of it, and that ahead of the term's.
func TestTypeOf(t *testing.T) {
	p := program(plain(), function(1, []int{f64, u8}, nil, ret()))
	for _, f := range []int{-1, 2, 3, math.MaxInt, math.MinInt, 1 << 32} {
		for _, x := range []api.Expr{num(1), loc(9), {}} {
			if told, e := TypeOf(p, f, x); told != 0 || e != api.ErrCheckFunc {
				t.Errorf("in %d: %d, %d", f, told, e)
			}
		}
	}
	if told, e := TypeOf(p, 1, loc(1)); told != u8 || e != api.OK {
		t.Errorf("a local: %d, %d", told, e)
	}
	if told, e := TypeOf(p, 0, loc(0)); told != 0 || e != api.ErrCheckLocal {
		t.Errorf("no local: %d, %d", told, e)
	}
	p.Funcs[1].Body = nil
	for _, f := range []int{-1, 0, 1, 2} {
		if told, e := TypeOf(p, f, loc(9)); told != 0 || e != api.ErrCheckReturn {
			t.Errorf("of no program, in %d: %d, %d", f, told, e)
		}
	}
}

// TestTypeOfLarge: P9.2, R1: a term beside a program may be longer, deeper and of more nodes than one in it.
func TestTypeOfLarge(t *testing.T) {
	p := program(plain())
	deep := num(1)
	for range 1<<16 - 2 {
		deep = un(api.UnCom, deep)
	}
	if told, e := TypeOf(p, 0, deep); told != i64 || e != api.OK {
		t.Errorf("deep: %d, %d", told, e)
	}
	wide := term(api.ExprStruct, none, 0, slices.Repeat([]api.Expr{num(1)}, 1<<16)...)
	if told, e := TypeOf(p, 0, wide); told != 0 || e != api.ErrCheckCount {
		t.Errorf("wide: %d, %d", told, e)
	}
	if told, e := TypeOf(p, 0, str(strings.Repeat("a", api.MaxText+1))); told != text || e != api.OK {
		t.Errorf("long: %d, %d", told, e)
	}
	both := make([]api.Expr, 2)
	for n := range both {
		both[n] = api.Expr{Op: api.ExprBin, N: api.BinAdd, Args: both}
	}
	if told, e := TypeOf(p, 0, both[0]); told != 0 || e == api.OK {
		t.Errorf("a term in itself: %d, %d", told, e)
	}
	shared := num(1)
	for range 64 {
		shared = bin(api.BinAdd, shared, shared)
		shared.Args[1] = shared.Args[0]
	}
	if told, e := TypeOf(p, 0, shared); told != 0 || e == api.OK {
		t.Errorf("a term in others in very many ways: %d, %d", told, e)
	}
}
