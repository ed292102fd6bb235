package source_test

import (
	"reflect"
	"slices"
	"testing"

	"gantry/api"
	"gantry/source"
)

// The types of the programs here.
const (
	i64 = iota
	yes
	i8
	i16
	i32
	u8
	u16
	u32
	u64
	f64
	text
	pair // struct of u8, i64
	none // struct of nothing
	list // of i64
	bits // slice of bools
	arr  // three i64
	thin // struct of u8, i16, bool, u8, u32: 12 bytes
	mix  // struct of bool, text, pair, u16, list, none, i8: 9 words
	hold // struct of u8, arr, none, i16: no value's type
	grid // two arr
	wide // an array of MaxSize bytes
	full // struct of MaxWords i64
	nil0 // an array of no i64
	to64 // pointers
	toYes
	toU8
	toI16
	toF64
	toText
	toPair
	toNone
	toList
	toArr
	toMix
	toHold
	toGrid
	toWide
	toFull
	toNil0
	toTo // to to64
	self // to itself
	pairs
	texts
	nones
	mixes
	lists
	arrs
	wides
	smalls // of i16
	toU32
	tos // of to64
	toThin
	thins
	manyTypes
)

func kind(k int) api.Type { return api.Type{Kind: k} }

func ptrTo(i int) api.Type { return api.Type{Kind: api.KindPtr, Elem: i} }

func sliceOf(i int) api.Type { return api.Type{Kind: api.TypeSlice, Elem: i} }

func arrayOf(i, n int) api.Type { return api.Type{Kind: api.TypeArray, Elem: i, N: n} }

func structure(l ...int) api.Type { return api.Type{Kind: api.TypeStruct, Fields: l} }

func typesHere() []api.Type {
	return []api.Type{
		kind(api.KindI64), kind(api.KindBool), kind(api.KindI8), kind(api.KindI16), kind(api.KindI32), kind(api.KindU8), kind(api.KindU16), kind(api.KindU32), kind(api.KindU64), kind(api.KindF64),
		kind(api.TypeString), structure(u8, i64), structure(), sliceOf(i64), sliceOf(yes), arrayOf(i64, 3), structure(u8, i16, yes, u8, u32), structure(yes, text, pair, u16, list, none, i8), structure(u8, arr, none, i16), arrayOf(arr, 2), arrayOf(u8, api.MaxSize), structure(slices.Repeat([]int{i64}, api.MaxWords)...), arrayOf(i64, 0),
		ptrTo(i64), ptrTo(yes), ptrTo(u8), ptrTo(i16), ptrTo(f64), ptrTo(text), ptrTo(pair), ptrTo(none), ptrTo(list), ptrTo(arr), ptrTo(mix), ptrTo(hold), ptrTo(grid), ptrTo(wide), ptrTo(full), ptrTo(nil0), ptrTo(to64), ptrTo(self),
		sliceOf(pair), sliceOf(text), sliceOf(none), sliceOf(mix), sliceOf(list), sliceOf(arr), sliceOf(wide), sliceOf(i16), ptrTo(u32), sliceOf(to64), ptrTo(thin), sliceOf(thin),
	}
}

func kindOf(t int) int { return typesHere()[t].Kind }

func term(op, t int, n int64, args ...api.Expr) api.Expr {
	return api.Expr{Op: op, T: t, N: n, Args: args}
}

func con(t int, n int64) api.Expr { return term(api.ExprConst, t, n) }

func num(n int64) api.Expr { return con(i64, n) }

func loc(n int64) api.Expr { return term(api.ExprLocal, 0, n) }

func str(s string) api.Expr { return api.Expr{Op: api.ExprStr, T: text, S: s} }

func null(t int) api.Expr { return term(api.ExprNil, t, 0) }

func un(op int64, x api.Expr) api.Expr { return term(api.ExprUn, 0, op, x) }

func bin(op int64, x, y api.Expr) api.Expr { return term(api.ExprBin, 0, op, x, y) }

func compare(op int64, x, y api.Expr) api.Expr { return term(api.ExprBin, yes, op, x, y) }

func both(x, y api.Expr) api.Expr { return term(api.ExprAnd, 0, 0, x, y) }

func either(x, y api.Expr) api.Expr { return term(api.ExprOr, 0, 0, x, y) }

func as(t int, x api.Expr) api.Expr { return term(api.ExprConv, t, 0, x) }

func field(n int64, x api.Expr) api.Expr { return term(api.ExprField, 0, n, x) }

func made(t int, l ...api.Expr) api.Expr { return term(api.ExprStruct, t, 0, l...) }

func load(x api.Expr) api.Expr { return term(api.ExprLoad, 0, 0, x) }

func addr(t int, n int64, x api.Expr) api.Expr { return term(api.ExprAddr, t, n, x) }

func elem(t int, x, i api.Expr) api.Expr { return term(api.ExprElem, t, 0, x, i) }

func index(x, i api.Expr) api.Expr { return term(api.ExprIndex, u8, 0, x, i) }

func length(x api.Expr) api.Expr { return term(api.ExprLen, i64, 0, x) }

func slice(x, lo, hi api.Expr) api.Expr { return term(api.ExprSlice, 0, 0, x, lo, hi) }

func fresh(t int) api.Expr { return term(api.ExprNew, t, 0) }

func row(t int, n api.Expr) api.Expr { return term(api.ExprMake, t, 0, n) }

func set(n int64, x api.Expr) api.Stmt {
	return api.Stmt{Op: api.StmtSet, N: n, Args: []api.Expr{x}}
}

func store(x, y api.Expr) api.Stmt { return api.Stmt{Op: api.StmtStore, Args: []api.Expr{x, y}} }

func emit(x api.Expr) api.Stmt { return api.Stmt{Op: api.StmtEmit, Args: []api.Expr{x}} }

func ret(l ...api.Expr) api.Stmt { return api.Stmt{Op: api.StmtReturn, Args: l} }

func when(x api.Expr, a, b []api.Stmt) api.Stmt {
	return api.Stmt{Op: api.StmtIf, Args: []api.Expr{x}, A: a, B: b}
}

func loop(l ...api.Stmt) api.Stmt { return api.Stmt{Op: api.StmtLoop, A: l} }

func leave(n int64) api.Stmt { return api.Stmt{Op: api.StmtBreak, N: n} }

func again(n int64) api.Stmt { return api.Stmt{Op: api.StmtContinue, N: n} }

func quit(n int64) api.Stmt { return api.Stmt{Op: api.StmtPanic, N: n} }

func call(f int64, dst []int, args ...api.Expr) api.Stmt {
	return api.Stmt{Op: api.StmtCall, N: f, Dst: dst, Args: args}
}

func body(l ...api.Stmt) []api.Stmt { return l }

func function(params int, locals, results []int, l ...api.Stmt) api.Func {
	return api.Func{Params: params, Locals: locals, Results: results, Body: l}
}

func program(l ...api.Func) api.Program { return api.Program{Types: typesHere(), Funcs: l} }

// alone is a program of a function 0 with no parameters, and these locals.
func alone(locals []int, l ...api.Stmt) api.Program {
	return program(function(0, locals, []int{i64}, l...))
}

func words(l ...uint64) []uint64 { return l }

// minus is a number below 0 as a word.
func minus(n int64) uint64 { return uint64(-n) }

func exits(n int64, trace ...uint64) api.Run { return api.Run{Trace: trace, End: api.EndExit, N: n} }

func panics(kind int64, trace ...uint64) api.Run {
	return api.Run{Trace: trace, End: api.EndPanic, N: kind}
}

func resource(trace ...uint64) api.Run { return api.Run{Trace: trace, End: api.EndResource} }

func fuelless(steps int, trace ...uint64) api.Run {
	return api.Run{Trace: trace, End: api.EndFuel, Steps: steps}
}

// plain: a nil list and an empty one are one.
func plain(r api.Run) api.Run {
	r.Trace = append(words(), r.Trace...)
	r.Calls = append([]api.Call{}, r.Calls...)
	for i := range r.Calls {
		r.Calls[i].Args = append(words(), r.Calls[i].Args...)
		r.Calls[i].Results = append(words(), r.Calls[i].Results...)
	}
	return r
}

// same holds two runs against each other, all of them.
func same(a, b api.Run) bool { return reflect.DeepEqual(plain(a), plain(b)) }

// runs holds a run against what it should be: its steps, if steps are told (or it ends by EndFuel); its calls, if calls are.
func runs(t *testing.T, name string, p api.Program, args []uint64, fuel int, want api.Run) api.Run {
	t.Helper()
	r, e := source.Run(p, args, fuel)
	got := r
	if want.Steps == 0 && want.End != api.EndFuel {
		got.Steps = 0
	}
	if want.Calls == nil {
		got.Calls = nil
	}
	if e != api.OK || !same(got, want) {
		t.Errorf("%s: %+v, %d, not %+v", name, got, e, want)
	}
	return r
}

// tells holds what a scalar term tells, in a function with such locals, behind such statements.
func tells(t *testing.T, name string, x api.Expr, want uint64, locals []int, l ...api.Stmt) {
	t.Helper()
	runs(t, name, alone(locals, append(slices.Clone(l), emit(x), ret(num(0)))...), nil, 1000, exits(0, want))
}

// ends holds how a run ends that works out a term of the type k, behind an emitted 1; ahead of an emitted 2.
func ends(t *testing.T, name string, k int, x api.Expr, want api.Run, locals ...int) {
	t.Helper()
	n := int64(len(locals))
	want.Trace = words(1)
	runs(t, name, alone(append(slices.Clone(locals), k), emit(num(1)), set(n, x), emit(num(2)), ret(num(0))), nil, 1000, want)
}

// handed tells the words of a term of the type k, as a call of a function with such a parameter has them.
func handed(t *testing.T, k int, x api.Expr, locals []int, l ...api.Stmt) []uint64 {
	t.Helper()
	l = append(slices.Clone(l), call(1, nil, x), ret(num(0)))
	p := program(function(0, locals, []int{i64}, l...), function(1, []int{k}, nil, ret()))
	r, e := source.Run(p, nil, 1000)
	if e != api.OK || r.End != api.EndExit || len(r.Calls) != 2 {
		t.Errorf("%+v, %d", r, e)
		return nil
	}
	return r.Calls[1].Args
}
