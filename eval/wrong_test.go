package eval_test

import (
	"math"
	"testing"

	"gantry/api"
	"gantry/compare"
	"gantry/eval"
	. "gantry/hand"
)

// changed tells a unit that is right but for one thing.
func changed(change func(u *api.Unit)) api.Unit {
	u := Unit(Counter())
	change(&u)
	return u
}

// spoilt are units that ssa.Check refuses, and its errors.
func spoilt() map[string]struct {
	u api.Unit
	e api.Errno
} {
	type row = struct {
		u api.Unit
		e api.Errno
	}
	second := Unit(three(), three())
	second.Codes[1].Blocks[0].Args = kinds(0, 1)
	return map[string]row{
		"none":                 {api.Unit{}, api.ErrSSAForm},
		"too many Codes":       {api.Unit{Codes: make([]api.Code, api.MaxFuncs+1)}, api.ErrSSAForm},
		"too many Data":        {WithData(make([]byte, api.MaxCode+1), three()), api.ErrSSAForm},
		"a Code of nothing":    {api.Unit{Codes: make([]api.Code, 1)}, api.ErrSSAForm},
		"no operation":         {changed(func(u *api.Unit) { u.Codes[0].Values[7].Op = api.OpAddr + 1 }), api.ErrSSAForm},
		"a Param of KindMem":   {changed(func(u *api.Unit) { u.Codes[0].Params[0] = Mem }), api.ErrSSAForm},
		"an end of KindNone":   {changed(func(u *api.Unit) { u.Codes[0].Blocks[3].Kind = 0 }), api.ErrSSAForm},
		"a way too few":        {changed(func(u *api.Unit) { u.Codes[0].Blocks[0].Succs = nil }), api.ErrSSAFlow},
		"a block of no way":    {changed(func(u *api.Unit) { u.Codes[0].Blocks[3].Preds = kinds(0) }), api.ErrSSAFlow},
		"no word":              {changed(func(u *api.Unit) { u.Codes[0].Values[3].Kind = Yes; u.Codes[0].Values[3].N = 2 }), api.ErrSSAType},
		"another kind":         {changed(func(u *api.Unit) { u.Codes[0].Values[7].Kind = I64 }), api.ErrSSAType},
		"a use ahead":          {changed(func(u *api.Unit) { u.Codes[0].Values[7].Args[0] = 8 }), api.ErrSSAOrder},
		"another memory":       {changed(func(u *api.Unit) { u.Codes[0].Blocks[3].Args[1] = 0 }), api.ErrSSAMem},
		"in another Code":      {second, api.ErrSSAType},
		"Results that are not": {changed(func(u *api.Unit) { u.Codes[0].Results[0] = Yes }), api.ErrSSAType},
	}
}

// TestSSAErrors: P15.1: ssa.Check's error ahead of all else: whatever the fuel and the args are, and though the Code 0's Results are none that may be.
func TestSSAErrors(t *testing.T) {
	for name, x := range spoilt() {
		for _, fuel := range []int{0, 100, -1, api.MaxFuel + 1} {
			for _, args := range [][]uint64{nil, words(1), words(1, 2)} {
				if r, e := eval.Run(x.u, args, fuel); e != x.e || !compare.Same(r, api.Run{}) {
					t.Errorf("%s: %+v, %d, not %d", name, r, e, x.e)
				}
			}
		}
	}
}

// TestWrongInputs: P15.1: ErrEvalFuel. Beside an error there is nothing else.
func TestWrongInputs(t *testing.T) {
	good := Begin(I8, Yes, Ptr)
	with := func(results ...int) api.Unit {
		m := Function(nil, results)
		var l []int
		for _, k := range results {
			l = append(l, m.Con(k, 1))
		}
		m.Ret(l...)
		return Unit(m)
	}
	right := words(127, 1, minus(1))
	for _, x := range []struct {
		name string
		u    api.Unit
		args []uint64
		fuel int
		e    api.Errno
	}{
		{"right", Unit(good.Done()), right, 10, api.OK},
		{"no fuel", Unit(good), right, 0, api.OK},
		{"the most fuel", Unit(good), right, api.MaxFuel, api.OK},
		{"fuel below 0", Unit(good), right, -1, api.ErrEvalFuel},
		{"the least fuel", Unit(good), right, math.MinInt, api.ErrEvalFuel},
		{"one fuel too much", Unit(good), right, api.MaxFuel + 1, api.ErrEvalFuel},
		{"far too much fuel", Unit(good), right, math.MaxInt, api.ErrEvalFuel},
		{"no args", Unit(good), nil, 10, api.ErrEvalFuel},
		{"one arg too few", Unit(good), words(127, 1), 10, api.ErrEvalFuel},
		{"one arg too many", Unit(good), words(127, 1, 1, 1), 10, api.ErrEvalFuel},
		{"an arg of none", Unit(three()), words(0), 10, api.ErrEvalFuel},
		{"no args of none", Unit(three()), words(), 10, api.OK},
		{"no word of KindI8", Unit(good), words(128, 1, 0), 10, api.ErrEvalFuel},
		{"the least word of KindI8", Unit(good), words(minus(128), 1, 0), 10, api.OK},
		{"below it", Unit(good), words(minus(129), 1, 0), 10, api.ErrEvalFuel},
		{"no bool", Unit(good), words(127, 2, 0), 10, api.ErrEvalFuel},
		{"words in another order", Unit(good), words(1, 127, 0), 10, api.ErrEvalFuel},
		{"fuel and args", Unit(good), nil, -1, api.ErrEvalFuel},
		{"no Results", with(), nil, 10, api.ErrEvalFuel},
		{"two Results", with(I64, I64), nil, 10, api.ErrEvalFuel},
		{"a Result of KindU64", with(U64), nil, 10, api.ErrEvalFuel},
		{"a Result of KindI32", with(I32), nil, 10, api.ErrEvalFuel},
		{"a Result of KindPtr", with(Ptr), nil, 10, api.ErrEvalFuel},
		{"a Result of KindF64", with(F64), nil, 10, api.ErrEvalFuel},
		{"a Result of KindI64", with(I64), nil, 10, api.OK},
		{"Results of another Code", api.Unit{Codes: append(Unit(three()).Codes, with(U64, F64).Codes...)}, nil, 10, api.OK},
		{"Results, and no fuel at all", with(U64), nil, 0, api.ErrEvalFuel},
	} {
		r, e := eval.Run(x.u, x.args, x.fuel)
		if e != x.e || e != api.OK && !compare.Same(r, api.Run{}) || e == api.OK && r.End == api.EndNone {
			t.Errorf("%s: %+v, %d, not %d", x.name, r, e, x.e)
		}
	}
}

// TestArgs: of each kind a word is taken, and what is none is not.
func TestArgs(t *testing.T) {
	for _, x := range []struct {
		kind    int
		is, not []uint64
	}{
		{Yes, words(0, 1), words(2, minus(1))},
		{I8, words(0, 127, minus(128)), words(128, 255, minus(129))},
		{I16, words(1<<15-1, minus(1<<15)), words(1<<15, minus(1<<15+1))},
		{I32, words(1<<31-1, minus(1<<31)), words(1<<31, minus(1<<31+1))},
		{U8, words(0, 255), words(256, minus(1))},
		{U16, words(1<<16 - 1), words(1 << 16)},
		{U32, words(1<<32 - 1), words(1<<32, minus(1))},
		{I64, words(0, 1<<63, minus(1)), nil},
		{U64, words(0, 1<<63, minus(1)), nil},
		{F64, words(0, 1<<63, minus(1)), nil},
		{Ptr, words(0, 1<<63, minus(1)), nil},
	} {
		u := Unit(Begin(x.kind).Done())
		for _, w := range x.is {
			if r, e := eval.Run(u, words(w), 10); e != api.OK || r.Calls[0].Args[0] != w {
				t.Errorf("kind %d, %d: %d", x.kind, w, e)
			}
		}
		for _, w := range x.not {
			if r, e := eval.Run(u, words(w), 10); e != api.ErrEvalFuel || !compare.Same(r, api.Run{}) {
				t.Errorf("kind %d, %d: %d", x.kind, w, e)
			}
		}
	}
}
