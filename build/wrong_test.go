package build_test

import (
	"reflect"
	"slices"
	"testing"

	"gantry/api"
	"gantry/build"
	"gantry/check"
	. "gantry/draft"
)

// refused holds that a program has no unit, and that nothing is told beside the error.
func refused(t *testing.T, name string, p api.Program, want api.Errno) {
	t.Helper()
	if u, e := build.Build(p); e != want || !reflect.DeepEqual(u, api.Unit{}) {
		t.Errorf("%s: %d Codes, %d, not %d", name, len(u.Codes), e, want)
	}
}

// many is a program with a function 1 of so many Code's values at least: 128 words of results by each call, all of which are told on.
func many(calls int) api.Program {
	full := slices.Repeat([]int{Full}, api.MaxParams)
	var l []api.Stmt
	for range calls {
		x := Call(1, []int{0, 1, 2, 3, 4, 5, 6, 7})
		for i := range int64(api.MaxParams) {
			x.Args = append(x.Args, Loc(i))
		}
		l = append(l, x)
	}
	var told []api.Expr
	for i := range int64(api.MaxParams) {
		told = append(told, Loc(i))
	}
	return Program(Function(0, nil, []int{I64}, Ret(Num(1))), Function(api.MaxParams, full, full, append(l, Ret(told...))...))
}

// TestCheckFirst: P16.1: check's error ahead of all else; also of what is never come to, and of a program that is too large.
func TestCheckFirst(t *testing.T) {
	first := func(x api.Stmt) api.Program { return Alone([]int{I64}, x, Ret(Num(1))) }
	deep := Num(1)
	for range api.MaxNest {
		deep = Un(api.UnNeg, deep)
	}
	large := many(200)
	large.Funcs = append(large.Funcs, Function(0, nil, nil, Emit(Loc(0)), Ret()))
	for _, c := range []struct {
		name string
		p    api.Program
		want api.Errno
	}{
		{"none at all", api.Program{}, api.ErrCheckFunc},
		{"no bytes", Alone(nil, Ret(Num(1)), api.Stmt{Op: -1}), api.ErrRawForm},
		{"too deep", Alone(nil, Ret(deep)), api.ErrRawDeep},
		{"too many nodes", Alone(nil, append(slices.Repeat(Body(Emit(Num(1))), api.MaxNodes/2), Ret(Num(1)))...), api.ErrRawMany},
		{"types", api.Program{Types: []api.Type{{}}, Funcs: first(Emit(Num(1))).Funcs}, api.ErrCheckTypes},
		{"a wrong function 0", Program(Function(0, nil, nil, Ret())), api.ErrCheckFunc},
		{"a local", first(Set(1, Num(1))), api.ErrCheckLocal},
		{"a type", first(Set(0, Con(U8, 1))), api.ErrCheckType},
		{"a count", first(Ret()), api.ErrCheckCount},
		{"a constant", first(Emit(Con(Yes, 2))), api.ErrCheckConst},
		{"a field", first(Emit(Field(2, Made(Pair, Con(U8, 1), Num(2))))), api.ErrCheckField},
		{"an operation", first(Emit(Bin(api.BinRem, Float(0), Float(0)))), api.ErrCheckOp},
		{"a loop", first(Leave(0)), api.ErrCheckLoop},
		{"no return", Alone(nil, Emit(Num(1))), api.ErrCheckReturn},
		{"what is never come to", Alone(nil, Ret(Num(1)), Emit(Loc(0))), api.ErrCheckLocal},
		{"too large, too", large, api.ErrCheckLocal},
	} {
		refused(t, c.name, c.p, c.want)
		if e := check.Check(c.p); e != c.want {
			t.Errorf("%s: check tells %d", c.name, e)
		}
	}
}

// TestLarge: P16.1: ErrBuildLarge, if a Code would have more than MaxValues values, and not where it has as many; whichever function it is.
func TestLarge(t *testing.T) {
	values := func(calls int) int {
		u := built(t, "many", many(calls))
		return len(u.Codes[1].Values)
	}
	head, each := values(0), values(1)-values(0)
	fits := (api.MaxValues - head) / each
	if got := values(fits); got != head+fits*each {
		t.Errorf("%d values, of %d and %d each", got, head, each)
	}
	refused(t, "one call more", many(fits+1), api.ErrBuildLarge)
	refused(t, "many calls", many(200), api.ErrBuildLarge)
	p := many(fits)
	p.Funcs = append(p.Funcs, Function(0, nil, nil, Ret()))
	calls := p.Funcs[1].Body
	rest := api.MaxValues - head - fits*each
	p.Funcs[1].Body = append(slices.Repeat(Body(Call(2, nil)), rest), calls...)
	if u := built(t, "just right", p); len(u.Codes[1].Values) != api.MaxValues {
		t.Errorf("%d values", len(u.Codes[1].Values))
	}
	p.Funcs[1].Body = append(slices.Repeat(Body(Call(2, nil)), rest+1), calls...)
	refused(t, "just too many", p, api.ErrBuildLarge)
	main := many(0)
	main.Funcs[0] = Function(0, slices.Repeat([]int{Full}, api.MaxParams), []int{I64}, append(many(150).Funcs[1].Body[:150], Ret(Num(1)))...)
	refused(t, "the function 0", main, api.ErrBuildLarge)
}

// size tells 16 and the words of a function's locals, times its nodes.
func size(p api.Program, f int) int {
	nodes := 0
	var terms func([]api.Expr)
	terms = func(l []api.Expr) {
		for _, x := range l {
			nodes++
			terms(x.Args)
		}
	}
	var statements func([]api.Stmt)
	statements = func(l []api.Stmt) {
		for _, x := range l {
			nodes++
			terms(x.Args)
			statements(x.A)
			statements(x.B)
		}
	}
	statements(p.Funcs[f].Body)
	return (16 + len(kinds(p, p.Funcs[f].Locals))) * nodes
}

// TestNeverLarge: P16.1: functions that are not large have a Code, whatever they are made of.
func TestNeverLarge(t *testing.T) {
	const most = 1 << 13
	fulls := slices.Repeat([]int{Full}, api.MaxLocals)
	eight := []int{0, 1, 2, 3, 4, 5, 6, 7}
	var args []api.Expr
	for i := range int64(8) {
		args = append(args, Loc(i))
	}
	calls := Call(1, eight, args...)
	elem := Elem(To64, Fresh(ToArr), Num(0))
	for _, c := range []struct {
		name   string
		locals []int
		l      []api.Stmt // again and again, as often as may be
	}{
		{"loads", nil, Body(Emit(Field(0, Load(Fresh(ToFull)))))},
		{"loads of loads", []int{Self}, Body(Set(0, Load(Load(Load(Load(Load(Load(Loc(0)))))))))},
		{"stores", []int{ToFull}, Body(Store(Loc(0), Load(Loc(0))))},
		{"stores of locals", []int{Full}, Body(Store(Fresh(ToFull), Loc(0)))},
		{"elements", nil, Body(Emit(Load(elem)), Emit(Load(Elem(To64, Slice(Row(List, Num(9)), Num(1), Num(5)), Num(-1)))))},
		{"calls", fulls[:8], Body(calls)},
		{"calls, more locals", fulls, Body(calls)},
		{"calls in branches", fulls[:8], Body(When(Con(Yes, 1), Body(calls), Body(calls)))},
		{"calls in loops", fulls[:8], Body(Loop(When(Con(Yes, 1), Body(Leave(0)), nil), calls, When(Con(Yes, 0), Body(calls, Leave(0)), nil)))},
		{"branches", ints(20), Body(When(Con(Yes, 1), Body(Set(3, Num(1))), Body(Set(4, Num(1)))))},
		{"both", ints(2), Body(Emit(Both(Con(Yes, 1), Either(Con(Yes, 1), Compare(api.BinEq, Loc(0), Loc(1))))))},
		{"loops", ints(4), Body(Loop(When(Con(Yes, 1), Body(Leave(0)), nil), up(0, 1), up(1, 1), Loop(When(Con(Yes, 1), Body(Leave(1)), Body(Again(1))))))},
		{"shifts", nil, Body(Emit(Bin(api.BinShl, Num(1), Bin(api.BinDiv, Num(7), Num(3)))))},
	} {
		of := func(n int) api.Program {
			var l []api.Stmt
			for range n {
				l = append(l, c.l...)
			}
			return Program(Function(0, c.locals, []int{I64}, append(l, Ret(Num(1)))...), Function(8, fulls[:8], fulls[:8], Quit(1)))
		}
		n := 0
		for size(of(n+1), 0) <= most {
			n++
		}
		if n == 0 {
			t.Errorf("%s: %d", c.name, size(of(1), 0))
		}
		built(t, c.name, of(n))
	}
}

func ints(n int) []int { return make([]int, n) }

// TestManyBlocks: as many blocks as nodes give: so they never are more than MaxBlocks.
func TestManyBlocks(t *testing.T) {
	x := Loc(0)
	for range api.MaxNest - 2 {
		x = Load(x)
	}
	p := Alone([]int{Self}, append(slices.Repeat(Body(Set(0, x)), api.MaxNodes/api.MaxNest-1), Ret(Num(1)))...)
	if n := len(built(t, "many blocks", p).Codes[0].Blocks); n <= api.MaxNodes || n > api.MaxBlocks {
		t.Errorf("%d blocks", n)
	}
}
