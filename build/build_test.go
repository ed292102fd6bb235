package build_test

import (
	"math"
	"reflect"
	"testing"

	"gantry/api"
	"gantry/build"
	. "gantry/draft"
)

// TestExample: the chapter's: 12's first example.
func TestExample(t *testing.T) {
	p := Alone(nil, Ret(Num(3)))
	want := api.Unit{Codes: []api.Code{{
		Results: []int{api.KindI64},
		Values:  []api.Value{{Op: api.OpInit, Kind: api.KindMem}, {Op: api.OpConst, Kind: api.KindI64, N: 3}},
		Blocks:  []api.Block{{Kind: api.BlockRet, Args: []int{1, 0}, List: []int{0, 1}}},
	}}}
	if u, e := build.Build(p); e != api.OK || !reflect.DeepEqual(u, want) {
		t.Errorf("%+v, %d", u, e)
	}
	does(t, "3", p, nil, api.EndExit, 3)
}

// TestPrograms: P16.1: programs of several functions, loops, choices, calls, memory, with several arguments each.
func TestPrograms(t *testing.T) {
	t.Parallel()
	for n := range uint64(12) {
		hold(t, "primes", Primes(), 3*n)
		hold(t, "chain", Chain(), n)
		hold(t, "divided", Divided(), 5*n-20, n-3)
	}
	does(t, "primes", Primes(), words(12), api.EndExit, 5, 2, 3, 5, 7, 11)
	does(t, "primes below 0", Primes(), words(minus(1)), api.EndPanic, api.PanicMake)
	does(t, "divided", Divided(), words(30, 12), api.EndExit, 6, 6, 2)
	does(t, "chain", Chain(), words(5), api.EndExit, 4, 'e', 'd', 'c', 'b')
}

// edges tells words of a type, the edges among them.
func edges(k int) []uint64 {
	switch {
	case k == Yes:
		return words(0, 1)
	case k == F64:
		return words(0, Minus0, Inf, MinusInf, Nan, OtherNaN, BitsOf(1.5), BitsOf(-300.7), BitsOf(1<<63), BitsOf(math.MaxFloat64))
	case IsSigned(k):
		return words(0, 1, minus(1), 3, minus(7), uint64(Least(k)), uint64(Greatest(k)))
	}
	return words(0, 1, 3, 64, 7, uint64(Greatest(k)), uint64(Greatest(k))/2)
}

// twice tells a program of two parameters of such types, that tells terms of them.
func twice(j, k int, l ...api.Expr) api.Program {
	var all []api.Stmt
	for _, x := range l {
		all = append(all, Emit(x))
	}
	return Program(Function(2, []int{j, k}, []int{I64}, append(all, Ret(Num(4)))...))
}

// holdTwice holds such a program with pairs of words at the edges.
func holdTwice(t *testing.T, name string, p api.Program, first, second []uint64) {
	t.Helper()
	u := built(t, name, p)
	for _, x := range first {
		for _, y := range second {
			holdRun(t, name, p, u, words(x, y))
		}
	}
}

// TestOperations: P16.1: ExprUn, ExprBin, ExprConv of all kinds, of parameters that nobody knows ahead.
func TestOperations(t *testing.T) {
	t.Parallel()
	x, y := Loc(0), Loc(1)
	for _, k := range append(Wholes(), F64) {
		l := []api.Expr{Un(api.UnNeg, x), Bin(api.BinAdd, x, y), Bin(api.BinSub, x, y), Bin(api.BinMul, x, y)}
		for op := int64(api.BinEq); op <= api.BinGe; op++ {
			l = append(l, Compare(op, x, y))
		}
		for _, to := range append(Wholes(), F64) {
			l = append(l, As(to, x))
		}
		if k == F64 {
			l = append(l, Bin(api.BinDiv, x, y))
		} else {
			l = append(l, Un(api.UnCom, x), Bin(api.BinAnd, x, y), Bin(api.BinOr, x, y), Bin(api.BinXor, x, y))
		}
		holdTwice(t, "operations", twice(k, k, l...), edges(k), edges(k))
	}
	p := twice(Yes, Yes, Un(api.UnNot, x), Bin(api.BinAnd, x, y), Bin(api.BinOr, x, y), Bin(api.BinXor, x, y), Compare(api.BinEq, x, y), Compare(api.BinNe, x, y))
	holdTwice(t, "bools", p, edges(Yes), edges(Yes))
}

// TestCarefulOperations: P16.1: a division by 0 and a shift by less than 0 end by a panic, of each int kind; all others do not.
func TestCarefulOperations(t *testing.T) {
	t.Parallel()
	for i, k := range Wholes() {
		some := words(5, uint64(Least(k)), uint64(Greatest(k)))
		for _, op := range []int64{api.BinDiv, api.BinRem, api.BinShl, api.BinShr} {
			holdTwice(t, "careful", twice(k, k, Bin(op, Loc(0), Loc(1))), some, edges(k))
		}
		far := Wholes()[(i+5)%8]
		holdTwice(t, "shifts", twice(k, far, Bin(api.BinShl, Loc(0), Loc(1))), some[:2], edges(far))
		holdTwice(t, "shifts", twice(k, far, Bin(api.BinShr, Loc(0), Loc(1))), some[1:], edges(far))
	}
}

// TestLogic: P16.1: ExprAnd and ExprOr ask their second operand only where they must, nested in any way, with blocks made on the one way alone.
func TestLogic(t *testing.T) {
	t.Parallel()
	zero := Compare(api.BinEq, Bin(api.BinDiv, Num(1), Loc(2)), Num(1)) // panics, if the local 2 is 0
	for _, c := range []struct {
		x     api.Expr
		wants string // for 00, 01, 10, 11: ! is a panic
	}{
		{Both(Loc(0), Loc(1)), "0001"},
		{Either(Loc(0), Loc(1)), "0111"},
		{Both(Loc(0), zero), "00!!"},
		{Either(Loc(0), zero), "!!11"},
		{Both(zero, Loc(0)), "!!!!"},
		{Both(Loc(0), Both(Loc(1), zero)), "000!"},
		{Both(Both(Loc(0), Loc(1)), zero), "000!"},
		{Either(Both(Loc(0), Loc(1)), zero), "!!!1"},
		{Both(Either(Loc(0), Loc(1)), zero), "0!!!"},
		{Either(Both(Un(api.UnNot, Loc(0)), Un(api.UnNot, Loc(1))), Both(Loc(0), Loc(1))), "1001"},
		{Bin(api.BinXor, Either(Loc(0), Loc(1)), Both(Loc(0), Loc(1))), "0110"},
		{Both(Loc(0), Compare(api.BinNe, Fresh(To64), Null(To64))), "0011"},
	} {
		p := Program(Function(2, []int{Yes, Yes, I64}, []int{I64}, Emit(Num(9)), Emit(c.x), Call(1, nil, Fresh(To64)), Ret(Num(1))), Function(1, []int{To64}, nil, Ret()))
		for i := range uint64(4) {
			if want := c.wants[i]; want == '!' {
				does(t, "logic", p, words(i/2, i%2), api.EndPanic, api.PanicDiv, 9)
			} else {
				does(t, "logic", p, words(i/2, i%2), api.EndExit, 1, 9, uint64(want-'0'))
			}
		}
	}
}

// carrier is a program whose words of all kinds go through locals, calls' parameters and results, memory, and are told on the way.
func carrier() api.Program {
	mix := Made(Mix, Loc(0), Str("abc"), Made(Pair, Con(U8, 200), Loc(1)), Con(U16, 65535), Row(List, Con(U8, 3)), Made(None), Con(I8, -1))
	tell := func(n int64) []api.Stmt {
		x := Loc(n)
		return Body(Emit(Field(0, x)), Emit(Index(Field(1, x), Num(2))), Emit(Field(0, Field(2, x))), Emit(Field(1, Field(2, x))), Emit(Field(3, x)), Emit(Length(Field(4, x))), Emit(Field(6, x)))
	}
	first := Body(
		Set(3, mix), Call(1, []int{5, 4, 6, 7}, Loc(3), Loc(2), Str("xyz"), Made(Pair, Con(U8, 7), Num(8)), Loc(1)),
		Emit(Field(1, Loc(5))), Emit(Index(Loc(6), Num(0))), Emit(Loc(7)))
	first = append(first, tell(3)...)
	first = append(first, tell(4)...)
	first = append(first, Set(8, Fresh(ToMix)), Store(Loc(8), Loc(4)), Store(Addr(ToPair, 2, Loc(8)), Loc(5)), Set(3, Load(Loc(8))))
	first = append(first, tell(3)...)
	first = append(first, Emit(Load(Elem(To64, Field(4, Loc(3)), Num(1)))), Emit(Load(Elem(To64, Field(4, Loc(4)), Con(U64, 2)))), Ret(Field(1, Field(2, Loc(3)))))
	second := Body(
		Store(Elem(To64, Field(4, Loc(0)), Num(1)), Loc(4)), Emit(Loc(1)),
		Ret(Loc(3), Made(Mix, Un(api.UnNot, Field(0, Loc(0))), Loc(2), Field(2, Loc(0)), Con(U16, 1), Slice(Field(4, Loc(0)), Num(1), Num(3)), Field(5, Loc(0)), Con(I8, 5)), Loc(2), Bin(api.BinMul, Loc(1), Loc(1))))
	return Program(
		Function(3, []int{Yes, I64, F64, Mix, Mix, Pair, Text, F64, ToMix}, []int{I64}, first...),
		Function(5, []int{Mix, F64, Text, Pair, I64}, []int{Pair, Mix, Text, F64}, second...))
}

// TestCarried: P16.1: structs, strings, slices and floats in locals, as parameters, as results, as what is loaded and stored.
func TestCarried(t *testing.T) {
	t.Parallel()
	three, nine := BitsOf(3), BitsOf(9)
	want := words(three, 8, 'x', nine, 1, 'c', 200, 41, 65535, 3, minus(1), 0, 'z', 200, 41, 1, 2, 5, 0, 'z', 7, 8, 1, 2, 5)
	r := hold(t, "carried", carrier(), 1, 41, three)
	if r.End != api.EndPanic || r.N != api.PanicIndex || !reflect.DeepEqual(r.Trace, append(want, 0)) {
		t.Errorf("%d, %d, %d", r.Trace, r.End, r.N)
	}
	for _, x := range edges(F64) {
		hold(t, "carried", carrier(), 0, minus(5), x)
	}
}
