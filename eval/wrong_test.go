package eval_test

import (
	"math"
	"testing"

	"gantry/api"
	"gantry/eval"
)

// changed tells a unit that is right but for one thing.
func changed(change func(u *api.Unit)) api.Unit {
	u := unit(counter())
	change(&u)
	return u
}

// spoilt are units that ssa.Check refuses, and its errors.
func spoilt() map[string]struct {
	u api.Unit
	e api.Errno
} {
	type row = struct {
		u api.Unit
		e api.Errno
	}
	second := unit(three(), three())
	second.Codes[1].Blocks[0].Args = kinds(0, 1)
	return map[string]row{
		"none":                 {api.Unit{}, api.ErrSSAForm},
		"too many Codes":       {api.Unit{Codes: make([]api.Code, api.MaxFuncs+1)}, api.ErrSSAForm},
		"too many Data":        {withData(make([]byte, api.MaxCode+1), three()), api.ErrSSAForm},
		"a Code of nothing":    {api.Unit{Codes: make([]api.Code, 1)}, api.ErrSSAForm},
		"no operation":         {changed(func(u *api.Unit) { u.Codes[0].Values[7].Op = api.OpAddr + 1 }), api.ErrSSAForm},
		"a Param of KindMem":   {changed(func(u *api.Unit) { u.Codes[0].Params[0] = mem }), api.ErrSSAForm},
		"an end of KindNone":   {changed(func(u *api.Unit) { u.Codes[0].Blocks[3].Kind = 0 }), api.ErrSSAForm},
		"a way too few":        {changed(func(u *api.Unit) { u.Codes[0].Blocks[0].Succs = nil }), api.ErrSSAFlow},
		"a block of no way":    {changed(func(u *api.Unit) { u.Codes[0].Blocks[3].Preds = kinds(0) }), api.ErrSSAFlow},
		"no word":              {changed(func(u *api.Unit) { u.Codes[0].Values[3].Kind = yes; u.Codes[0].Values[3].N = 2 }), api.ErrSSAType},
		"another kind":         {changed(func(u *api.Unit) { u.Codes[0].Values[7].Kind = i64 }), api.ErrSSAType},
		"a use ahead":          {changed(func(u *api.Unit) { u.Codes[0].Values[7].Args[0] = 8 }), api.ErrSSAOrder},
		"another memory":       {changed(func(u *api.Unit) { u.Codes[0].Blocks[3].Args[1] = 0 }), api.ErrSSAMem},
		"in another Code":      {second, api.ErrSSAType},
		"Results that are not": {changed(func(u *api.Unit) { u.Codes[0].Results[0] = yes }), api.ErrSSAType},
	}
}

// TestSSAErrors: P15.1: ssa.Check's error ahead of all else: whatever the fuel and the args are, and though the Code 0's Results are none that may be.
func TestSSAErrors(t *testing.T) {
	for name, x := range spoilt() {
		for _, fuel := range []int{0, 100, -1, api.MaxFuel + 1} {
			for _, args := range [][]uint64{nil, words(1), words(1, 2)} {
				if r, e := eval.Run(x.u, args, fuel); e != x.e || !same(r, api.Run{}) {
					t.Errorf("%s: %+v, %d, not %d", name, r, e, x.e)
				}
			}
		}
	}
}

// TestWrongInputs: P15.1: ErrEvalFuel. Beside an error there is nothing else.
func TestWrongInputs(t *testing.T) {
	good := begin(i8, yes, ptr)
	with := func(results ...int) api.Unit {
		m := function(nil, results)
		var l []int
		for _, k := range results {
			l = append(l, m.con(k, 1))
		}
		m.ret(l...)
		return unit(m)
	}
	right := words(127, 1, minus(1))
	for _, x := range []struct {
		name string
		u    api.Unit
		args []uint64
		fuel int
		e    api.Errno
	}{
		{"right", unit(good.done()), right, 10, api.OK},
		{"no fuel", unit(good), right, 0, api.OK},
		{"the most fuel", unit(good), right, api.MaxFuel, api.OK},
		{"fuel below 0", unit(good), right, -1, api.ErrEvalFuel},
		{"the least fuel", unit(good), right, math.MinInt, api.ErrEvalFuel},
		{"one fuel too much", unit(good), right, api.MaxFuel + 1, api.ErrEvalFuel},
		{"far too much fuel", unit(good), right, math.MaxInt, api.ErrEvalFuel},
		{"no args", unit(good), nil, 10, api.ErrEvalFuel},
		{"one arg too few", unit(good), words(127, 1), 10, api.ErrEvalFuel},
		{"one arg too many", unit(good), words(127, 1, 1, 1), 10, api.ErrEvalFuel},
		{"an arg of none", unit(three()), words(0), 10, api.ErrEvalFuel},
		{"no args of none", unit(three()), words(), 10, api.OK},
		{"no word of KindI8", unit(good), words(128, 1, 0), 10, api.ErrEvalFuel},
		{"the least word of KindI8", unit(good), words(minus(128), 1, 0), 10, api.OK},
		{"below it", unit(good), words(minus(129), 1, 0), 10, api.ErrEvalFuel},
		{"no bool", unit(good), words(127, 2, 0), 10, api.ErrEvalFuel},
		{"words in another order", unit(good), words(1, 127, 0), 10, api.ErrEvalFuel},
		{"fuel and args", unit(good), nil, -1, api.ErrEvalFuel},
		{"no Results", with(), nil, 10, api.ErrEvalFuel},
		{"two Results", with(i64, i64), nil, 10, api.ErrEvalFuel},
		{"a Result of KindU64", with(u64), nil, 10, api.ErrEvalFuel},
		{"a Result of KindI32", with(i32), nil, 10, api.ErrEvalFuel},
		{"a Result of KindPtr", with(ptr), nil, 10, api.ErrEvalFuel},
		{"a Result of KindF64", with(f64), nil, 10, api.ErrEvalFuel},
		{"a Result of KindI64", with(i64), nil, 10, api.OK},
		{"Results of another Code", api.Unit{Codes: append(unit(three()).Codes, with(u64, f64).Codes...)}, nil, 10, api.OK},
		{"Results, and no fuel at all", with(u64), nil, 0, api.ErrEvalFuel},
	} {
		r, e := eval.Run(x.u, x.args, x.fuel)
		if e != x.e || e != api.OK && !same(r, api.Run{}) || e == api.OK && r.End == api.EndNone {
			t.Errorf("%s: %+v, %d, not %d", x.name, r, e, x.e)
		}
	}
}

// TestArgs: of each kind a word is taken, and what is none is not.
func TestArgs(t *testing.T) {
	for _, x := range []struct {
		kind    int
		is, not []uint64
	}{
		{yes, words(0, 1), words(2, minus(1))},
		{i8, words(0, 127, minus(128)), words(128, 255, minus(129))},
		{i16, words(1<<15-1, minus(1<<15)), words(1<<15, minus(1<<15+1))},
		{i32, words(1<<31-1, minus(1<<31)), words(1<<31, minus(1<<31+1))},
		{u8, words(0, 255), words(256, minus(1))},
		{u16, words(1<<16 - 1), words(1 << 16)},
		{u32, words(1<<32 - 1), words(1<<32, minus(1))},
		{i64, words(0, 1<<63, minus(1)), nil},
		{u64, words(0, 1<<63, minus(1)), nil},
		{f64, words(0, 1<<63, minus(1)), nil},
		{ptr, words(0, 1<<63, minus(1)), nil},
	} {
		u := unit(begin(x.kind).done())
		for _, w := range x.is {
			if r, e := eval.Run(u, words(w), 10); e != api.OK || r.Calls[0].Args[0] != w {
				t.Errorf("kind %d, %d: %d", x.kind, w, e)
			}
		}
		for _, w := range x.not {
			if r, e := eval.Run(u, words(w), 10); e != api.ErrEvalFuel || !same(r, api.Run{}) {
				t.Errorf("kind %d, %d: %d", x.kind, w, e)
			}
		}
	}
}
