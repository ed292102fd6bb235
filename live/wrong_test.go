package live

import (
	"math"
	"testing"

	"gantry/api"
	"gantry/sample"
	"gantry/ssa"
)

// refused holds that each call tells the error, and nothing beside it.
func refused(t *testing.T, what string, u api.Unit, f int, want api.Errno) {
	t.Helper()
	if l, e := Ins(u, f); e != want || l != nil {
		t.Errorf("%s, %d: Ins: %d, %d, not %d", what, f, l, e, want)
	}
	if l, e := Outs(u, f); e != want || l != nil {
		t.Errorf("%s, %d: Outs: %d, %d, not %d", what, f, l, e, want)
	}
	if l, e := Far(u, f); e != want || l != nil {
		t.Errorf("%s, %d: Far: %v, %d, not %d", what, f, l, e, want)
	}
}

// two tells a program of two functions, the second a loop.
func two() api.Unit {
	return api.Unit{Codes: []api.Code{
		code(values{begin, num}, ret(list(1, 0), 0, 1)),
		code(values{begin, num, flag, memPhi(0, 4), emit(1, 3), neg(1)}, plain(1, 0, 1), branch(2, 2, 3, 3, 2), plain(1, 4), ret(list(3), 5)),
	}}
}

// TestNoCode: P14.1, P14.2: ErrSSAForm for an f that is no Code's number.
func TestNoCode(t *testing.T) {
	for _, f := range list(-1, -2, 2, 3, math.MinInt, math.MaxInt, 1<<32, 1<<32+1, -1<<32) {
		refused(t, "no Code", two(), f, api.ErrSSAForm)
	}
}

// TestWrong: P14.1, P14.2: ssa.Check's errors, ahead of all else, whichever function they are in and whichever is asked.
func TestWrong(t *testing.T) {
	for _, f := range list(0, 1, -1, 2, math.MinInt) {
		refused(t, "nothing", api.Unit{}, f, api.ErrSSAForm)
		for _, x := range []struct {
			what string
			make func(u *api.Unit)
			want api.Errno
		}{
			{"an operation below all", func(u *api.Unit) { u.Codes[0].Values[1].Op = -1 }, api.ErrSSAForm},
			{"a value in two Lists", func(u *api.Unit) { u.Codes[1].Blocks[2].List = list(4, 1) }, api.ErrSSAForm},
			{"a value in none", func(u *api.Unit) { u.Codes[1].Blocks[3].List = nil }, api.ErrSSAForm},
			{"Args below all", func(u *api.Unit) { u.Codes[1].Values[5].Args = list(-1) }, api.ErrSSAForm},
			{"Args above all", func(u *api.Unit) { u.Codes[1].Values[5].Args = list(1 << 40) }, api.ErrSSAForm},
			{"an OpPhi with too few Args", func(u *api.Unit) { u.Codes[1].Values[3].Args = list(0) }, api.ErrSSAForm},
			{"Succs above all", func(u *api.Unit) { u.Codes[1].Blocks[2].Succs = list(9) }, api.ErrSSAForm},
			{"Preds too few", func(u *api.Unit) { u.Codes[1].Blocks[2].Preds = nil }, api.ErrSSAFlow},
			{"no way out where one must be", func(u *api.Unit) { u.Codes[0].Blocks[0].Kind, u.Codes[0].Blocks[0].Args = api.BlockPlain, nil }, api.ErrSSAFlow},
			{"another kind", func(u *api.Unit) { u.Codes[1].Values[5].Kind = api.KindU8 }, api.ErrSSAType},
			{"no word of its kind", func(u *api.Unit) { u.Codes[0].Values[1].Kind, u.Codes[0].Values[1].N = api.KindU8, 256 }, api.ErrSSAType},
			{"used ahead of itself", func(u *api.Unit) { u.Codes[0].Blocks[0].List, u.Codes[0].Values[1] = list(1, 0), neg(1) }, api.ErrSSAOrder},
			{"used where it is not made on each way", func(u *api.Unit) { u.Codes[1].Values[1].N, u.Codes[1].Values[4].Args[0] = 0, 5 }, api.ErrSSAOrder},
			{"a memory that is past", func(u *api.Unit) { u.Codes[1].Values[4].Args[1] = 0 }, api.ErrSSAMem},
			{"order, and flow in the function behind it", func(u *api.Unit) {
				u.Codes[0].Values[1] = neg(1)
				u.Codes[1].Blocks[2].Preds = nil
			}, api.ErrSSAOrder},
			{"memory, and a kind ahead of it", func(u *api.Unit) {
				u.Codes[1].Values[4].Args[1] = 0
				u.Codes[1].Values[5].Kind = api.KindU8
			}, api.ErrSSAType},
		} {
			u := two()
			x.make(&u)
			refused(t, x.what, u, f, x.want)
		}
	}
}

// TestSpoilt: P14.1, P14.2: programs with a small change: ssa.Check's error, or what the model tells.
func TestSpoilt(t *testing.T) {
	turns := sample.Turns(9)
	found := map[api.Errno]int{}
	for range 5000 {
		u := sample.Unit(&turns)
		sample.Spoil(&turns, &u)
		e := ssa.Check(u)
		if found[e]++; e == api.OK {
			agree(t, u)
			continue
		}
		refused(t, "spoilt", u, turns.Next(len(u.Codes)+2)-1, e)
	}
	for _, e := range []api.Errno{api.OK, api.ErrSSAForm, api.ErrSSAFlow, api.ErrSSAType, api.ErrSSAOrder, api.ErrSSAMem} {
		if found[e] < 30 {
			t.Errorf("%d was told %d times: too few", e, found[e])
		}
	}
}
