package cse_test

import (
	"slices"
	"testing"
	"time"

	"gantry/api"
	"gantry/compare"
	. "gantry/hand"
	"gantry/trial"
)

// full tells whether a Code has nearly as many values as may be.
func full(m *Maker) bool { return len(m.Values) > api.MaxValues-16 }

// row is as many values one behind the other as there may be.
func row(next func(m *Maker, x int) int) *Maker {
	m := trial.Start(I64)
	x := first
	for !full(m) {
		x = next(m, x)
	}
	m.Ret(x)
	return m
}

// pairs is two rows of such, in turns.
func pairs(next func(m *Maker, x int) int) *Maker {
	m := trial.Start(I64)
	x, y := first, first
	for !full(m) {
		x, y = next(m, x), next(m, y)
	}
	m.Ret(m.Bin(api.BinSub, I64, x, y))
	return m
}

// deep is as many blocks one behind the other as there may be, each of which lays a value.
func deep(next func(m *Maker, k int) int) *Maker {
	m := trial.Start(I64)
	x := first
	for k := 1; k < api.MaxBlocks; k++ {
		x = next(m, k)
		m.Plain(k)
		m.Next(k - 1)
	}
	m.Ret(x)
	return m
}

// stairs is as many branches one behind the other as there may be: each side tells the same, and what goes on does.
func stairs() *Maker {
	m := trial.Start(I64)
	many := (api.MaxBlocks - 1) / 2
	for k := range many {
		m.Branch(flag, 2*k+1, 2*k+2)
		m.Next(2 * k)
		m.Ret(m.Bin(api.BinSub, I64, first, second))
		m.Next(2 * k)
		m.Bin(api.BinXor, I64, first, second)
	}
	m.Ret(m.Bin(api.BinSub, I64, first, second))
	return m
}

// greatest are Codes as great as may be, and how many of their values go.
func greatest() map[string]struct {
	m    *Maker
	goes func(values int) int
} {
	type one = struct {
		m    *Maker
		goes func(values int) int
	}
	add := func(m *Maker, x int) int { return m.Bin(api.BinAdd, I64, x, second) }
	most := func(less int) func(int) int { return func(values int) int { return values - less } }
	half := func(values int) int { return (values - 7) / 2 }
	none := func(int) int { return 0 }
	return map[string]one{
		"one value":    {row(func(m *Maker, _ int) int { return add(m, first) }), most(6 + 1)},
		"a constant":   {row(func(m *Maker, _ int) int { return m.Num(7) }), most(6 + 1)},
		"a choice":     {row(func(m *Maker, _ int) int { return m.Sel(I64, flag, first, second) }), most(6 + 1)},
		"a load":       {row(func(m *Maker, _ int) int { return m.Load(I64, point, 0) }), most(6 + 1)},
		"loads":        {row(func(m *Maker, x int) int { return m.Load(I64, point, int64(x)) }), none},
		"all others":   {row(add), none},
		"constants":    {row(func(m *Maker, x int) int { return m.Num(uint64(x)) }), none},
		"pairs":        {pairs(add), half},
		"deep":         {deep(func(m *Maker, k int) int { return add(m, first) }), func(int) int { return api.MaxBlocks - 2 }},
		"deep, others": {deep(func(m *Maker, k int) int { return m.Num(uint64(k)) }), none},
		"stairs":       {stairs(), func(int) int { return (api.MaxBlocks-1)/2 - 1 }},
	}
}

// TestSoon: P18.1, P18.2: Codes as great as may be, whatever numbers their values have, end soon, and as they should.
func TestSoon(t *testing.T) {
	for name, x := range greatest() {
		u := Unit(x.m)
		want := x.goes(compare.Count(u.Codes[0], api.OpNone))
		for _, u := range []api.Unit{u, trial.Back(u)} {
			begin := time.Now()
			made := pass.Made(t, name, u)
			if d := time.Since(begin); d > 5*time.Second {
				t.Errorf("%s: %v", name, d)
			}
			if gone := compare.Count(u.Codes[0], api.OpNone) - compare.Count(made.Codes[0], api.OpNone); gone != want {
				t.Errorf("%s: %d values go, not %d", name, gone, want)
			}
			trial.Keeps(t, name, u, made, []uint64{0, 1, 1 << 12, 3, 4}, 100, api.MaxFuel)
		}
	}
}

// TestMost: P18.1: as many Codes as may be, as great as may be, with as many Data as may be.
func TestMost(t *testing.T) {
	all := greatest()
	var l []*Maker
	for _, name := range []string{"one value", "all others", "pairs", "stairs"} {
		l = append(l, slices.Repeat([]*Maker{all[name].m}, api.MaxFuncs/4)...)
	}
	begin := time.Now()
	pass.Made(t, "most", WithData(make([]byte, api.MaxCode), l...))
	if d := time.Since(begin); d > 10*time.Second {
		t.Errorf("%v", d)
	}
}
