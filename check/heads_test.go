package check

import (
	"math"
	"strings"
	"testing"

	"gantry/api"
)

// TestManyFuncs: P9.1: no function, MaxFuncs of them, one more.
func TestManyFuncs(t *testing.T) {
	for n := range api.MaxFuncs + 3 {
		p := program()
		for range n {
			p.Funcs = append(p.Funcs, plain())
		}
		want := api.OK
		if n == 0 || n > api.MaxFuncs {
			want = api.ErrCheckFunc
		}
		answers(t, "functions", p, want)
		if n > 0 {
			p.Funcs[n-1].Body = nil
			p.Funcs[0].Locals = []int{99}
			want = api.ErrCheckLocal
		}
		if n > api.MaxFuncs {
			want = api.ErrCheckFunc
		}
		answers(t, "functions, and a head", p, want)
	}
	answers(t, "nothing", api.Program{}, api.ErrCheckFunc)
}

// heads holds a function that is not the function 0 against an error of its head, which goes ahead of all bodies.
func heads(t *testing.T, name string, want api.Errno, f api.Func) {
	t.Helper()
	f.Body = body(loop())
	answers(t, name, program(plain(), f), want)
	answers(t, name+", behind another", program(plain(), function(8, many(8, text), many(8, pair), loop()), f), want)
	if want != api.OK {
		f.Body = nil
		answers(t, name+", and bodies", program(function(0, nil, []int{i64}), f, function(0, nil, nil)), want)
		answers(t, name+", and the next head", program(plain(), f, function(99, nil, many(99, i64))), want)
	}
}

// TestHeads: P9.1: MaxLocals locals, MaxParams parameters and results, and one more; entries and values' types; the first where several apply.
func TestHeads(t *testing.T) {
	const most, params = api.MaxLocals, api.MaxParams
	for n := range most + 3 {
		want := api.OK
		if n > most {
			want = api.ErrCheckLocal
		}
		heads(t, "locals", want, function(0, many(n, f64), nil))
	}
	for locals := range params + 3 {
		for n := range params + 4 {
			want := api.ErrCheckLocal
			if n <= locals && n <= params {
				want = api.OK
			}
			heads(t, "parameters", want, function(n, many(locals, list), nil))
		}
	}
	for _, n := range []int{api.MaxParams + 1, most, most + 1, math.MaxInt32} {
		heads(t, "parameters", api.ErrCheckLocal, function(n, many(most, i8), nil))
	}
	for n := range params + 3 {
		want := api.OK
		if n > params {
			want = api.ErrCheckCount
		}
		heads(t, "results", want, function(0, nil, many(n, toHolds)))
	}
	for k := range manyType + 2 {
		want, no := api.OK, api.ErrCheckLocal
		if isNoValue(k) {
			want, no = api.ErrCheckType, api.ErrCheckType
		} else if k < manyType {
			no = api.OK
		} else {
			want = api.ErrCheckType
		}
		heads(t, "a local", no, function(1, []int{k}, nil))
		heads(t, "the last local", no, function(1, append(many(most-1, u8), k), nil))
		heads(t, "a result", want, function(1, []int{i64}, []int{k}))
		heads(t, "the last result", want, function(1, []int{i64}, append(many(params-1, u8), k)))
	}
	heads(t, "no entry, and a parameter", api.ErrCheckLocal, function(2, []int{99}, nil))
	heads(t, "no value's type ahead of no entry", api.ErrCheckLocal, function(0, []int{arr, holds, 99}, nil))
	heads(t, "no value's type, and Params", api.ErrCheckLocal, function(2, []int{arr}, nil))
	heads(t, "no value's type, and too many", api.ErrCheckLocal, function(0, many(most+1, arr), nil))
	heads(t, "no value's type, and results", api.ErrCheckType, function(0, []int{arr}, many(params+1, i64)))
	heads(t, "too many results of no type", api.ErrCheckCount, function(0, []int{text}, many(params+1, 99)))
	heads(t, "results of no type", api.ErrCheckType, function(0, []int{text}, many(params, 99)))
}

// TestFirst: P9.1: the function 0: one result of KindI64, plain parameters, at most ArgRegs.
func TestFirst(t *testing.T) {
	first := func(name string, want api.Errno, params int, locals, results []int) {
		t.Helper()
		answers(t, name, program(function(params, locals, results, loop())), want)
		if want != api.OK {
			answers(t, name+", and a body", program(function(params, locals, results)), want)
			answers(t, name+", and another", program(function(params, locals, results, loop()), function(1, nil, many(99, 99))), want)
		}
		answers(t, "as another", program(plain(), function(params, locals, results, loop())), api.OK)
	}
	first("nothing", api.ErrCheckFunc, 0, nil, nil)
	first("two results", api.ErrCheckFunc, 0, nil, []int{i64, i64})
	for k := range manyType {
		if isNoValue(k) {
			continue
		}
		want := api.ErrCheckFunc
		if k == i64 || k == num2 {
			want = api.OK
		}
		first("a result", want, 0, nil, []int{k})
		want = api.ErrCheckFunc
		if k <= f642 {
			want = api.OK
		}
		first("a parameter", want, 1, []int{k}, []int{i64})
		first("the last parameter", want, 6, []int{i64, f64, u8, yes, i8, k, text}, []int{num2})
		first("a local", api.OK, 1, []int{i64, k}, []int{i64})
	}
	for n := range api.MaxParams + 1 {
		want := api.OK
		if n > api.ArgRegs {
			want = api.ErrCheckFunc
		}
		first("parameters", want, n, many(api.MaxLocals, i64), []int{i64})
		first("parameters, and a result", api.ErrCheckFunc, n, many(api.MaxLocals, i64), []int{yes})
	}
	answers(t, "no head at all", program(function(9, many(9, text), nil)), api.ErrCheckLocal)
	answers(t, "results of no type", program(function(1, []int{text}, []int{99})), api.ErrCheckType)
	answers(t, "too many results", program(function(1, []int{text}, many(9, yes))), api.ErrCheckCount)
	answers(t, "a local of no value's type", program(function(1, []int{arr}, nil)), api.ErrCheckType)
}

// TestWhole: P9.1: raw's errors ahead of all, then types', then functions', heads', bodies'.
func TestWhole(t *testing.T) {
	deep := quit(0)
	for range api.MaxNest - 1 {
		deep = loop(deep)
	}
	fine := function(0, nil, []int{i64}, deep)
	answers(t, "as deep as may be", program(fine), api.OK)
	fine.Body = body(loop(deep))
	tooMany := function(99, many(99, 99), nil, make([]api.Stmt, api.MaxNodes+1)...)
	long := function(0, []int{text}, []int{i64}, set(0, str(strings.Repeat("a", api.MaxText+1))), quit(0))
	below := function(-1, nil, []int{i64}, quit(0))
	noTypes := []api.Type{{}}
	for _, c := range []struct {
		name string
		want api.Errno
		l    []api.Func
	}{
		{"too deep", api.ErrRawDeep, []api.Func{fine}}, {"too many", api.ErrRawMany, []api.Func{fine, tooMany}},
		{"too long", api.ErrRawForm, []api.Func{fine, tooMany, long}}, {"below 0", api.ErrRawForm, []api.Func{below, tooMany}},
		{"a local below 0", api.ErrRawForm, []api.Func{function(0, []int{-1}, []int{i64}, quit(0))}}, {"a result below 0", api.ErrRawForm, []api.Func{function(0, nil, []int{-1}, quit(0))}},
		{"T below 0", api.ErrRawForm, []api.Func{function(0, nil, []int{i64}, ret(con(-1, 0)))}},
	} {
		answers(t, c.name, program(c.l...), c.want)
		answers(t, c.name+", and no types", api.Program{Types: noTypes, Funcs: c.l}, c.want)
	}
	large := append(typesHere(), api.Type{Kind: api.TypeArray, Elem: i64, N: api.MaxSize})
	for _, l := range [][]api.Type{noTypes, large, make([]api.Type, api.MaxTypes+1), {kind(api.KindMem)}, {kind(api.KindI64), ptrTo(2)}, {structure(0)}} {
		for _, f := range [][]api.Func{nil, {plain()}, {function(99, nil, nil)}, make([]api.Func, api.MaxFuncs+1)} {
			answers(t, "no types", api.Program{Types: l, Funcs: f}, api.ErrCheckTypes)
		}
	}
	answers(t, "no entries", api.Program{Funcs: []api.Func{plain()}}, api.ErrCheckType)
	answers(t, "an entry too few", api.Program{Funcs: []api.Func{function(0, []int{0}, []int{0}, ret(num(0)))}}, api.ErrCheckLocal)
	p := program(function(0, nil, []int{i64}, emit(num(1))), function(0, nil, nil, quit(256)))
	answers(t, "an end, then the next function", p, api.ErrCheckReturn)
	p.Funcs[0].Body = body(emit(loc(0)))
	answers(t, "a statement, then the end", p, api.ErrCheckLocal)
	p.Funcs[0] = plain()
	answers(t, "the next function", p, api.ErrCheckConst)
	p.Funcs[1].Params = 1
	answers(t, "heads ahead of bodies", p, api.ErrCheckLocal)
}
