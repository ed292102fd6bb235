package run

import (
	"testing"

	"gantry/api"
)

// program is R64's: 8 bytes an instruction, so a place is 8 times its number, and how far a jump goes is told by numbers, too.
type program []api.Inst

func (p *program) add(l ...api.Inst) { *p = append(*p, l...) }

// jump adds one that goes to the instruction number to.
func (p *program) jump(op, a, to int) {
	p.add(api.Inst{Op: op, A: a, Imm: int64(8 * (to - len(*p) - 1))})
}

func (p *program) call(to int) { p.jump(api.InstCall, 0, to) }

func emit(a int) api.Inst { return api.Inst{Op: api.InstEmit, A: a} }

func exit(a int) api.Inst { return api.Inst{Op: api.InstExit, A: a} }

func addI(a, b int, n int64) api.Inst { return api.Inst{Op: api.InstAddI, A: a, B: b, Imm: n} }

func push(a int, n int64) api.Inst {
	return api.Inst{Op: api.InstStore, A: a, B: 15, K: api.KindU64, Imm: n}
}

func pop(a int, n int64) api.Inst {
	return api.Inst{Op: api.InstLoad, A: a, B: 15, K: api.KindU64, Imm: n}
}

func reg(n int) api.Place { return api.Place{N: n} }

func onStack(n int) api.Place { return api.Place{Stack: true, N: n} }

func places(l ...api.Place) []api.Place { return l }

// checkRun holds Run of p, with functions at these instructions, against what is told.
func checkRun(t *testing.T, p program, funcs []int, calls []api.Assign, in []uint64, want api.Run) {
	t.Helper()
	img := imageOf(t, api.TargetR, p...)
	for _, f := range funcs {
		img.Funcs = append(img.Funcs, 8*f)
	}
	if got, e := Run(img, 8192, in, calls, 5000); e != api.OK || !same(got, want) {
		t.Errorf("%+v, %d, want %+v", got, e, want)
	}
}

// TestCallWords: P5.2; arguments and results in registers and slots; slots are those behind the place to go back to, at the call's RegSP.
func TestCallWords(t *testing.T) {
	var p program
	p.add(addI(15, 15, -24), movI(1, 70), push(1, 0), movI(1, 71), push(1, 8), movI(1, 72), push(1, 16), movI(1, 5))
	p.call(11)
	p.add(emit(2), exit(3))
	p.add(movI(2, 6), pop(3, 8), addI(3, 3, 100), push(3, 16), addI(15, 15, -8), addI(15, 15, 8), api.Inst{Op: api.InstRet})
	calls := []api.Assign{{Args: places(reg(1), onStack(0), onStack(2), reg(2), onStack(1), onStack(3), onStack(255), onStack(0)), Results: places(onStack(1), reg(2), onStack(0), reg(1), reg(3), onStack(4))}}
	want := api.Run{Trace: args(6), End: api.EndExit, N: 170, Steps: 18, Calls: []api.Call{{Args: args(5, 70, 72, 0, 71, 0, 0, 70), Back: true, Results: args(170, 6, 70, 5, 170, 0)}}}
	checkRun(t, p, []int{11}, calls, nil, want)
	want.Calls = nil
	checkRun(t, p, []int{11}, nil, nil, want)
	checkRun(t, p, nil, nil, nil, want)
	checkRun(t, p, []int{0, 1, 2}, make([]api.Assign, 3), nil, want)
	want.Calls = []api.Call{{Back: true}}
	checkRun(t, p, []int{11}, []api.Assign{{}}, nil, want)
}

// TestCallSlotsOutside: P5.2; a slot that ends behind the memory is 0, wholly, though its first bytes are there.
func TestCallSlotsOutside(t *testing.T) {
	var p program
	p.add(addI(15, 15, -12), movI(1, -1), push(1, 0), push(1, 4))
	p.call(6)
	p.add(exit(0))
	p.add(api.Inst{Op: api.InstRet})
	calls := []api.Assign{{Args: places(onStack(0), onStack(1), onStack(2)), Results: places(onStack(1), onStack(0))}}
	checkRun(t, p, []int{6}, calls, nil, api.Run{End: api.EndExit, Steps: 7, Calls: []api.Call{{Args: args(top, 0, 0), Back: true, Results: args(0, top)}}})
}

// TestCallsNested: P5.2; calls stand in the order in which they began; one function calls another one, and itself.
func TestCallsNested(t *testing.T) {
	var p program
	p.call(2)
	p.add(exit(0))
	// 2: the function 0: if the register 0 is not 0, itself of what the function 1 makes of it; 1 is what 0 was.
	p.add(addI(15, 15, -8), push(0, 0))
	p.jump(api.InstJz, 0, 8)
	p.call(11)
	p.call(2)
	p.jump(api.InstJmp, 0, 8)
	p.add(pop(1, 0), addI(15, 15, 8), api.Inst{Op: api.InstRet})
	// 11: the function 1: 1 less.
	p.add(addI(0, 0, -1), api.Inst{Op: api.InstRet})
	calls := []api.Assign{{Args: places(reg(0)), Results: places(reg(0), reg(1))}, {Args: places(reg(0)), Results: places(reg(0))}}
	want := api.Run{End: api.EndExit, Steps: 30, Calls: []api.Call{
		{Func: 0, Args: args(2), Back: true, Results: args(0, 2)},
		{Func: 1, Args: args(2), Back: true, Results: args(1)},
		{Func: 0, Args: args(1), Back: true, Results: args(0, 1)},
		{Func: 1, Args: args(1), Back: true, Results: args(0)},
		{Func: 0, Args: args(0), Back: true, Results: args(0, 0)},
	}}
	checkRun(t, p, []int{2, 11}, calls, args(2), want)
	want.Calls = nil
	checkRun(t, p, []int{2, 11}, nil, args(2), want)
}

// TestCallsFirst: P5.2; of functions that begin at one place it is the first one.
func TestCallsFirst(t *testing.T) {
	var p program
	p.call(3)
	p.call(3)
	p.add(exit(0))
	p.add(api.Inst{Op: api.InstRet})
	calls := []api.Assign{{}, {Args: places(reg(0))}, {Args: places(reg(1), reg(1)), Results: places(reg(1))}, {}}
	one := api.Call{Func: 1, Args: args(8), Back: true}
	checkRun(t, p, []int{0, 3, 3, 4}, calls, args(8, 9), api.Run{End: api.EndExit, N: 8, Steps: 5, Calls: []api.Call{one, one}})
}

// TestCallsAway: P5.2; calls that are not back where the run ends, by whatever end; a call that the stack has no room for is none.
func TestCallsAway(t *testing.T) {
	calls := []api.Assign{{Args: places(reg(0)), Results: places(reg(0))}}
	away := func(n, f int) []api.Call {
		var l []api.Call
		for range n {
			l = append(l, api.Call{Func: f, Args: args(8)})
		}
		return l
	}
	for n, last := range []api.Inst{exit(0), {Op: api.InstPanic, Imm: 9}, {Op: api.InstChk, Imm: 4096}, {Op: api.InstLoad, K: api.KindU8}} {
		var p program
		p.call(1)
		p.add(last)
		end := []int{api.EndExit, api.EndPanic, api.EndResource, api.EndStuck}[n]
		checkRun(t, p, []int{1}, calls, args(8), api.Run{End: end, N: []int64{8, 9, 0, 0}[n], Steps: 2, Calls: away(1, 0)})
	}
	var p program
	p.call(0)
	checkRun(t, p, []int{0}, calls, args(8), api.Run{End: api.EndResource, Steps: 513, Calls: away(512, 0)})
	checkRun(t, p, []int{1, 0}, append([]api.Assign{{}}, calls...), args(8), api.Run{End: api.EndResource, Steps: 513, Calls: away(512, 1)})
	var behind program
	behind.call(1)
	checkRun(t, behind, []int{1}, calls, args(8), api.Run{End: api.EndStuck, Steps: 2, Calls: away(1, 0)})
	img := imageOf(t, api.TargetR, p...)
	img.Funcs = []int{0}
	if got, e := Run(img, 8192, args(8), calls, 3); e != api.OK || !same(got, api.Run{End: api.EndFuel, Steps: 3, Calls: away(3, 0)}) {
		t.Errorf("%+v, %d", got, e)
	}
}

// TestReturns: P5.2; a return that is no end of the last call that is away is stuck, if calls are written down.
func TestReturns(t *testing.T) {
	ret := api.Inst{Op: api.InstRet}
	// 0: call 4; 1: emit; 2: exit. 4: the function changes its place to go back to.
	elsewhere := func() program {
		var p program
		p.call(4)
		p.add(emit(1), exit(0), exit(0), movI(2, 16), push(2, 0), ret)
		return p
	}
	// the same place to go back to, at another RegSP.
	moved := func() program {
		var p program
		p.call(4)
		p.add(emit(1), exit(0), exit(0), pop(2, 0), addI(15, 15, -8), push(2, 0), ret)
		return p
	}
	// a call of what is no function, from within one: its return is not that one's.
	inner := func() program {
		var p program
		p.call(4)
		p.add(emit(1), exit(0), exit(0))
		p.call(6)
		p.add(ret, ret)
		return p
	}
	// two calls away, and a return of the first one.
	skipped := func() program {
		var p program
		p.call(4)
		p.add(emit(1), exit(0), exit(0))
		p.call(5)
		p.add(addI(15, 15, 8), ret)
		return p
	}
	f := []api.Assign{{Args: places(reg(0)), Results: places(reg(1))}}
	first := api.Call{Args: args(3)}
	checkRun(t, elsewhere(), []int{4}, f, args(3, 4), api.Run{End: api.EndStuck, Steps: 4, Calls: []api.Call{first}})
	checkRun(t, elsewhere(), []int{4}, nil, args(3, 4), api.Run{End: api.EndExit, N: 3, Steps: 5})
	checkRun(t, moved(), []int{4}, f, args(3, 4), api.Run{End: api.EndStuck, Steps: 5, Calls: []api.Call{first}})
	checkRun(t, moved(), []int{4}, nil, args(3, 4), api.Run{Trace: args(4), End: api.EndExit, N: 3, Steps: 7})
	checkRun(t, inner(), []int{4}, f, args(3, 4), api.Run{End: api.EndStuck, Steps: 3, Calls: []api.Call{first}})
	checkRun(t, inner(), []int{4}, nil, args(3, 4), api.Run{Trace: args(4), End: api.EndExit, N: 3, Steps: 6})
	checkRun(t, skipped(), []int{4, 5}, append(f, f...), args(3, 4), api.Run{End: api.EndStuck, Steps: 4, Calls: []api.Call{first, {Func: 1, Args: args(3)}}})
	checkRun(t, skipped(), []int{4}, f, args(3, 4), api.Run{Trace: args(4), End: api.EndExit, N: 3, Steps: 6, Calls: []api.Call{{Args: args(3), Back: true, Results: args(4)}}})
	// Where no call is away a return goes where it likes: here to a function (6), by no call, and to the end (7).
	var p program
	p.add(addI(15, 15, -16), movI(2, 8*6), push(2, 0), movI(2, 8*7), push(2, 8), ret, ret, exit(0))
	checkRun(t, p, []int{6}, f, args(3, 4), api.Run{End: api.EndExit, N: 3, Steps: 8})
}

// TestCallsBack: P5.2; a call that is back is not away any more: a second return behind it is the outer one's, or goes where it likes.
func TestCallsBack(t *testing.T) {
	var p program
	p.call(2)
	p.add(exit(0))
	p.call(4)
	p.add(api.Inst{Op: api.InstRet}, api.Inst{Op: api.InstRet})
	calls := []api.Assign{{Results: places(reg(0))}, {Args: places(reg(0))}}
	checkRun(t, p, []int{2, 4}, calls, args(3), api.Run{End: api.EndExit, N: 3, Steps: 5, Calls: []api.Call{{Back: true, Results: args(3)}, {Func: 1, Args: args(3), Back: true}}})
}

// TestCallsC64: P5.2, on the other target, where instructions have other lengths.
func TestCallsC64(t *testing.T) {
	img := imageOf(t, api.TargetC, api.Inst{Op: api.InstCall, Imm: 4}, emit(0), exit(0), api.Inst{Op: api.InstBinI, A: 0, K: api.KindI64, Sub: api.BinAdd, Imm: 1}, api.Inst{Op: api.InstRet})
	img.Funcs = []int{0, 9}
	calls := []api.Assign{{}, {Args: places(reg(0), onStack(0)), Results: places(reg(0))}}
	want := api.Run{Trace: args(42), End: api.EndExit, N: 42, Steps: 5, Calls: []api.Call{{Func: 1, Args: args(41, 0), Back: true, Results: args(42)}}}
	if got, e := Run(img, 8192, args(41), calls, 99); e != api.OK || !same(got, want) {
		t.Errorf("%+v, %d", got, e)
	}
	img = imageOf(t, api.TargetC, api.Inst{Op: api.InstCall, Imm: 4}, emit(0), exit(0), movI(1, 7), api.Inst{Op: api.InstStore, A: 1, B: 15, K: api.KindU64}, api.Inst{Op: api.InstRet})
	img.Funcs = []int{0, 9}
	want = api.Run{End: api.EndStuck, Steps: 4, Calls: []api.Call{{Func: 1, Args: args(41, 0)}}}
	if got, e := Run(img, 8192, args(41), calls, 99); e != api.OK || !same(got, want) {
		t.Errorf("%+v, %d", got, e)
	}
}
