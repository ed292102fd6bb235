package compare_test

import (
	"testing"

	"gantry/api"
	"gantry/compare"
	. "gantry/hand"
)

func ran(end int, n int64, trace ...uint64) api.Run {
	return api.Run{Trace: trace, End: end, N: n, Calls: []api.Call{{Back: end == api.EndExit}}}
}

// TestRuns: which runs agree, and which ones keep others.
func TestRuns(t *testing.T) {
	const exit, panics, fuel, stuck = api.EndExit, api.EndPanic, api.EndFuel, api.EndStuck
	for _, x := range []struct {
		a, b         api.Run
		agree, keeps bool
	}{
		{ran(exit, 1, 5), ran(exit, 1, 5), true, true}, {ran(exit, 1), ran(exit, 2), false, false}, {ran(exit, 1, 5), ran(exit, 1), false, false}, {ran(exit, 1), ran(panics, 1), false, false},
		{ran(fuel, 0, 5), ran(exit, 1, 5, 6), true, true}, {ran(exit, 1, 5, 6), ran(fuel, 0, 5), true, true}, {ran(fuel, 0, 5), ran(exit, 1, 6), false, false}, {ran(fuel, 0, 5, 6), ran(exit, 1, 5), true, true},
		{ran(stuck, 0, 5), ran(stuck, 0, 5), true, true}, {ran(stuck, 0, 5), ran(exit, 3, 5, 6), false, true}, {ran(stuck, 0, 5), ran(exit, 3, 6, 5), false, false}, {ran(stuck, 0, 5), ran(exit, 3), false, false},
		{ran(exit, 3, 5), ran(stuck, 0, 5), false, false}, {ran(stuck, 0, 5), ran(fuel, 0), true, true}, {ran(stuck, 0, 5), ran(fuel, 0, 6), false, false},
	} {
		if agree, keeps := compare.Agree(x.a, x.b), compare.Keeps(x.a, x.b); agree != x.agree || keeps != x.keeps {
			t.Errorf("%+v, %+v: %t, %t", x.a, x.b, agree, keeps)
		}
	}
	a, b := ran(exit, 1), ran(exit, 1)
	b.Steps = 2
	if !compare.Agree(a, b) || compare.Same(a, b) || !compare.Same(a, a) {
		t.Errorf("steps")
	}
	b.Calls = []api.Call{{Back: true, Args: []uint64{1}}}
	if compare.Agree(a, b) {
		t.Errorf("calls")
	}
}

// number is a program that tells a number, by way of another one, and is left with it.
func number(n uint64) api.Unit {
	m := Begin(I64)
	x := m.Bin(api.BinAdd, I64, m.Num(n), m.Num(0))
	m.Emit(x)
	m.Ret(x)
	return Unit(m)
}

// TestPasses: what is wrong with what a pass makes, and what is not.
func TestPasses(t *testing.T) {
	u := number(3)
	if wrong := compare.Formed(u, number(3)); wrong != "" {
		t.Error(wrong)
	}
	if wrong := compare.Kept(u, number(3), []uint64{0}, 1, 2, 5); wrong != "" {
		t.Error(wrong)
	}
	if wrong := compare.Kept(stuck(), endless(), []uint64{0}, 1, 5); wrong != "" {
		t.Error(wrong)
	}
	for name, made := range map[string]api.Unit{"another number": number(4), "a loop": endless(), "arguments": Unit(Begin().Done())} {
		if compare.Kept(u, made, []uint64{0}, 1, 5) == "" {
			t.Errorf("%s: nothing is wrong", name)
		}
	}
	other := number(3)
	other.Data = []byte{1}
	two := number(3)
	two.Codes = append(two.Codes, two.Codes...)
	spoilt := number(3)
	spoilt.Codes[0].Values[1].N = 5
	for name, made := range map[string]api.Unit{"Data": other, "Codes": two, "ssa": spoilt, "Params": Unit(Begin().Done()), "none": {}} {
		if compare.Formed(u, made) == "" {
			t.Errorf("%s: nothing is wrong", name)
		}
	}
}

// endless tells 3, and goes on without end.
func endless() api.Unit {
	m := Begin(I64)
	m.Emit(m.Num(3))
	m.Plain(1)
	m.Next(0, 1)
	m.Plain(1)
	return Unit(m)
}

// stuck tells 3, and is stuck.
func stuck() api.Unit {
	m := Begin(I64)
	m.Emit(m.Num(3))
	m.Ret(m.Bin(api.BinDiv, I64, m.Num(3), m.Num(0)))
	return Unit(m)
}

// TestLists: which lists share memory; what is wiped.
func TestLists(t *testing.T) {
	u := number(3)
	if !compare.Apart(number(3), number(4)) || compare.Apart(u, u) {
		t.Errorf("apart")
	}
	u = number(3)
	u.Codes[0].Values[4].Args = u.Codes[0].Values[4].Args[:1]
	u.Codes[0].Blocks[0].List = u.Codes[0].Values[4].Args[:1:1]
	if compare.Apart(u) {
		t.Errorf("two lists of one unit")
	}
	u = number(3)
	u.Data = []byte{0, 7}
	l := u.Codes[0].Params
	compare.Wipe(u)
	if l[0] == I64 || u.Codes[0].Values != nil || u.Data[0] == 0 || u.Data[1] == 7 {
		t.Errorf("%d, %+v", l, u)
	}
}

// TestEqual: units that are the same, and not in one list, one number.
func TestEqual(t *testing.T) {
	if !compare.Equal(number(3), number(3)) || compare.Equal(number(3), number(4)) {
		t.Errorf("numbers")
	}
	for name, change := range map[string]func(u *api.Unit){
		"Data":    func(u *api.Unit) { u.Data = []byte{0} },
		"Codes":   func(u *api.Unit) { u.Codes = append(u.Codes, api.Code{}) },
		"Params":  func(u *api.Unit) { u.Codes[0].Params[0]++ },
		"Results": func(u *api.Unit) { u.Codes[0].Results[0]++ },
		"Op":      func(u *api.Unit) { u.Codes[0].Values[3].Op++ },
		"Kind":    func(u *api.Unit) { u.Codes[0].Values[3].Kind++ },
		"N":       func(u *api.Unit) { u.Codes[0].Values[3].N++ },
		"M":       func(u *api.Unit) { u.Codes[0].Values[3].M++ },
		"Args":    func(u *api.Unit) { u.Codes[0].Values[4].Args[1]++ },
		"a block": func(u *api.Unit) { u.Codes[0].Blocks[0].Kind++ },
		"its N":   func(u *api.Unit) { u.Codes[0].Blocks[0].N++ },
		"its end": func(u *api.Unit) { u.Codes[0].Blocks[0].Args[0]++ },
		"Preds":   func(u *api.Unit) { u.Codes[0].Blocks[0].Preds = []int{0} },
		"Succs":   func(u *api.Unit) { u.Codes[0].Blocks[0].Succs = []int{0} },
		"List":    func(u *api.Unit) { u.Codes[0].Blocks[0].List[0]++ },
	} {
		u := number(3)
		change(&u)
		if compare.Equal(u, number(3)) {
			t.Errorf("%s: the same", name)
		}
	}
	u := number(3)
	u.Data, u.Codes[0].Blocks[0].Preds = []byte{}, []int{}
	if !compare.Equal(u, number(3)) {
		t.Errorf("empty lists")
	}
}

// TestBlocks: holes are not counted.
func TestBlocks(t *testing.T) {
	u := number(3)
	u.Codes[0].Blocks = append(u.Codes[0].Blocks, api.Block{})
	if many := compare.Blocks(u.Codes[0]); many != 1 {
		t.Errorf("%d", many)
	}
}
