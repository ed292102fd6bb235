package eval_test

import (
	"testing"

	"gantry/api"
	"gantry/compare"
	. "gantry/hand"
)

// greatest tells the greatest common divisor of its arguments by a call of itself: it is the Code of that number.
func greatest(number int64) *Maker {
	m := Begin(U64, U64)
	m.Results = kinds(U64)
	zero := m.Con(U64, 0)
	m.Branch(m.Bin(api.BinEq, U64, 2, zero), 1, 2)
	m.Next(0)
	m.Ret(1)
	m.Next(0)
	c := m.Call(number, 2, m.Bin(api.BinRem, U64, 1, 2))
	m.Ret(m.Result(U64, c, 0))
	return m
}

// TestItself: P15.1: a function that calls itself; its trace, its Calls, its steps.
func TestItself(t *testing.T) {
	main := Begin(U64, U64)
	main.Emit(main.Num(1))
	c := main.Call(1, 1, 2)
	x := main.Result(U64, c, 0)
	main.Emit(x)
	main.Ret(main.Conv(I64, x))
	six := words(6)
	want := api.Run{Trace: words(1, 6), End: api.EndExit, N: 6, Steps: 10 + 10 + 10 + 7, Calls: []api.Call{
		{Args: words(30, 12), Back: true, Results: six},
		{Func: 1, Args: words(30, 12), Back: true, Results: six},
		{Func: 1, Args: words(12, 6), Back: true, Results: six},
		{Func: 1, Args: words(6, 0), Back: true, Results: six},
	}}
	runs(t, "30, 12", Unit(main, greatest(1)), words(30, 12), 100, want)
}

// many has words of all kinds handed over both ways, in another order.
func many() []*Maker {
	params := kinds(I8, F64, Ptr, Yes, U16, I64, I32, U32, U64, I16, U8)
	m := Begin(params...)
	var args, results []int
	for i := range params {
		args = append(args, 1+i)
	}
	c := m.Call(1, args...)
	for i, k := range kinds(U8, Ptr, I8, Yes) {
		results = append(results, m.Result(k, c, int64(i)))
	}
	m.Emit(results[2])
	m.Emit(results[0])
	m.Emit(m.Bin(api.BinEq, Ptr, results[1], 3))
	m.Ret(6)
	other := Function(params, kinds(U8, Ptr, I8, Yes))
	other.Ret(11, 3, 1, 4)
	return []*Maker{m, other}
}

// TestManyWords: parameters' and results' words of all kinds, in their order.
func TestManyWords(t *testing.T) {
	args := words(minus(1), bits(-0.5), 12345, 1, 65535, minus(7), minus(9), 1<<32-1, minus(1), minus(300), 200)
	runs(t, "many", Unit(many()...), args, 100, api.Run{Trace: words(minus(1), 200, 1), End: api.EndExit, N: -7, Steps: 12 + 5 + 4 + 1 + 13, Calls: []api.Call{
		{Args: args, Back: true, Results: words(minus(7))},
		{Func: 1, Args: args, Back: true, Results: words(200, 12345, minus(1), 1)},
	}})
}

// TestNoWords: a function may have neither parameters nor results; a result need not be asked for, or may be often, and late.
func TestNoWords(t *testing.T) {
	m := Begin()
	m.Call(1)
	first := m.Call(2)
	m.Call(1)
	second := m.Call(2)
	m.Emit(m.Result(I64, first, 1))
	m.Emit(m.Result(I64, second, 0))
	m.Emit(m.Result(I64, first, 1))
	m.Ret(m.Result(I64, first, 0))
	nothing := Function(nil, nil)
	nothing.Ret()
	two := Function(nil, kinds(I64, I64))
	eight := two.Num(8)
	two.Ret(eight, two.Num(9))
	none := api.Call{Func: 1, Back: true}
	both := api.Call{Func: 2, Back: true, Results: words(8, 9)}
	runs(t, "none", Unit(m, nothing, two), nil, 100, api.Run{Trace: words(9, 8, 9), End: api.EndExit, N: 8, Steps: 13 + 2*2 + 4*2, Calls: []api.Call{{Back: true, Results: words(8)}, none, both, none, both}})
}

// TestOneValueTwice: one value may be handed over twice, and told twice.
func TestOneValueTwice(t *testing.T) {
	m := Begin(I64)
	c := m.Call(1, 1, 1)
	first := m.Result(I64, c, 0)
	m.Ret(m.Bin(api.BinSub, I64, first, m.Result(I64, c, 1)))
	other := Function(kinds(I64, I64), kinds(I64, I64))
	other.Ret(other.Bin(api.BinAdd, I64, 1, 2), 1)
	runs(t, "twice", Unit(m, other), words(21), 100, api.Run{End: api.EndExit, N: 21, Steps: 7 + 5, Calls: []api.Call{
		{Args: words(21), Back: true, Results: words(21)},
		{Func: 1, Args: words(21, 21), Back: true, Results: words(42, 21)},
	}})
}

// TestOwnWords: the words of a function's values are its own in each of its calls: a call of itself changes none of them.
func TestOwnWords(t *testing.T) {
	m := Begin(I64)
	zero, one := m.Num(0), m.Num(1)
	m.Branch(m.Bin(api.BinGt, I64, 1, zero), 1, 2)
	m.Next(0)
	double := m.Bin(api.BinAdd, I64, 1, 1)
	block := m.Block(8)
	m.Store(block, 0, 1)
	c := m.Call(0, m.Bin(api.BinSub, I64, 1, one))
	m.Emit(double)
	m.Emit(1)
	m.Emit(m.Load(I64, block, 0))
	m.Ret(m.Bin(api.BinAdd, I64, double, m.Result(I64, c, 0)))
	m.Next(0)
	m.Ret(zero)
	ends(t, "own words", Unit(m), words(3), api.EndExit, 12, 2, 1, 1, 4, 2, 2, 6, 3, 3)
}

// TestMemoryOfAll: all functions have one memory, one heap, one trace.
func TestMemoryOfAll(t *testing.T) {
	m := Begin()
	p := m.Block(8)
	x := m.Num(5)
	m.Store(p, 0, x)
	m.Emit(x)
	q := m.Result(Ptr, m.Call(1, p), 0)
	m.Emit(m.Load(I64, p, 0))
	m.Emit(m.Load(I64, q, 0))
	m.Emit(m.Load(U8, m.Data(0), 0))
	m.Store(m.Block(0), 0, x)
	m.Emit(m.Load(I64, q, 8))
	other := Function(kinds(Ptr), kinds(Ptr))
	r := other.Block(8)
	v := other.Load(I64, 1, 0)
	other.Emit(v)
	other.Store(r, 0, other.Bin(api.BinAdd, I64, v, other.Num(1)))
	other.Store(1, 0, other.Num(7))
	other.Store(other.Data(0), 0, other.Con(U8, 9))
	other.Ret(r)
	exits(t, "of all", WithData([]byte{1}, m.Done(), other), 5, 5, 7, 6, 9, 5)
}

// deep calls itself as often as its argument says, and tells how often that was: it is the Code of that number.
func deep(number int64) *Maker {
	m := Begin(I64)
	zero, one := m.Num(0), m.Num(1)
	m.Branch(m.Bin(api.BinGt, I64, 1, zero), 1, 2)
	m.Next(0)
	c := m.Call(number, m.Bin(api.BinSub, I64, 1, one))
	m.Ret(m.Bin(api.BinAdd, I64, m.Result(I64, c, 0), one))
	m.Next(0)
	m.Ret(zero)
	return m
}

// TestAway: 1024 functions may be away, the Code 0 among them; one more ends the run by EndResource.
func TestAway(t *testing.T) {
	u := Unit(deep(0))
	for _, n := range []uint64{0, 1, 1000, 1022, 1023} {
		r := ran(t, "away", u, words(n), 100000)
		if r.End != api.EndExit || r.N != int64(n) || len(r.Calls) != int(n)+1 || r.Steps != int(n)*11+7 {
			t.Errorf("%d: %d, %d, %d calls, %d steps", n, r.End, r.N, len(r.Calls), r.Steps)
		}
		for i, c := range r.Calls {
			if left := n - uint64(i); !compare.SameCall(c, api.Call{Args: words(left), Back: true, Results: words(left)}) {
				t.Errorf("%d: %d: %+v", n, i, c)
			}
		}
	}
	for _, n := range []uint64{1024, 1025, 5000} {
		r := ran(t, "too many away", u, words(n), 100000)
		if r.End != api.EndResource || r.N != 0 || len(r.Calls) != 1025 || r.Steps != 1024*8 {
			t.Errorf("%d: %d, %d, %d calls, %d steps", n, r.End, r.N, len(r.Calls), r.Steps)
		}
		for i, c := range r.Calls {
			if !compare.SameCall(c, api.Call{Args: words(n - uint64(i))}) {
				t.Errorf("%d: %d: %+v", n, i, c)
			}
		}
	}
	r := ran(t, "no fuel for one more", u, words(1024), 1024*8-1)
	if r.End != api.EndFuel || len(r.Calls) != 1024 {
		t.Errorf("%d, %d calls", r.End, len(r.Calls))
	}
}

// TestBackAgain: what is back is not away any more.
func TestBackAgain(t *testing.T) {
	m := Begin()
	for range 3000 {
		m.Call(1)
	}
	nothing := Function(nil, nil)
	nothing.Ret()
	exits(t, "one behind the other", Unit(m.Done(), nothing))
	for _, n := range []uint64{1022, 1023} {
		m = Begin()
		for range 3 {
			m.Call(1, m.Num(n))
			m.Emit(m.Num(n))
		}
		u := Unit(m.Done(), deep(1))
		if n == 1022 {
			exits(t, "deep ones, one behind the other", u, n, n, n)
		} else {
			full(t, "one that is too deep", u)
		}
	}
}

// TestNotBack: a call that did not come back has neither Back nor results; one that did ahead of it has.
func TestNotBack(t *testing.T) {
	last := Function(kinds(U8), kinds(I64))
	zero := last.Con(U8, 0)
	last.Branch(last.Bin(api.BinEq, U8, 1, zero), 1, 2)
	last.Next(0)
	last.Panics(77)
	last.Next(0)
	last.Ret(last.Num(5))
	main := Begin(U8)
	main.Call(2, main.Con(U8, 1))
	main.Emit(main.Num(1))
	x := main.Call(1, 1)
	main.Emit(main.Num(2))
	main.Ret(main.Result(I64, x, 0))
	between := Function(kinds(U8), kinds(I64))
	x = between.Call(2, 1)
	between.Emit(between.Num(3))
	between.Ret(between.Result(I64, x, 0))
	u := Unit(main, between, last)
	back := func(f int, arg, result uint64) api.Call {
		return api.Call{Func: f, Args: words(arg), Back: true, Results: words(result)}
	}
	away := func(f int, arg uint64) api.Call { return api.Call{Func: f, Args: words(arg)} }
	runs(t, "not back", u, words(0), 100, api.Run{Trace: words(1), End: api.EndPanic, N: 77, Steps: 7 + 7 + 3 + 6, Calls: []api.Call{away(0, 0), back(2, 1, 5), away(1, 0), away(2, 0)}})
	all := []api.Call{back(0, 9, 5), back(2, 1, 5), back(1, 9, 5), back(2, 9, 5)}
	runs(t, "back", u, words(9), 100, api.Run{Trace: words(1, 3, 2), End: api.EndExit, N: 5, Steps: 11 + 7 + 7 + 7, Calls: all})
	r := ran(t, "no fuel for the end of the last one", u, words(9), 7+7+3+6)
	if r.End != api.EndFuel || len(r.Calls) != 4 || !compare.SameCall(r.Calls[3], away(2, 9)) || !compare.SameCall(r.Calls[1], all[1]) {
		t.Errorf("%+v", r)
	}
	r = ran(t, "no fuel behind it", u, words(9), 7+7+3+7)
	if r.End != api.EndFuel || len(r.Calls) != 4 || !compare.SameCall(r.Calls[3], all[3]) || !compare.SameCall(r.Calls[2], away(1, 9)) {
		t.Errorf("%+v", r)
	}
	r = ran(t, "no fuel for a call's first value", u, words(9), 3)
	if r.End != api.EndFuel || len(r.Calls) != 1 {
		t.Errorf("%+v", r)
	}
	r = ran(t, "a call and no more", u, words(9), 4)
	if r.End != api.EndFuel || len(r.Calls) != 2 || !compare.SameCall(r.Calls[1], away(2, 1)) {
		t.Errorf("%+v", r)
	}
}

// TestCallOfFirst: the Code 0 may be called, too: its end is a run's end only the first time.
func TestCallOfFirst(t *testing.T) {
	m := Begin(Yes)
	m.Branch(1, 1, 2)
	m.Next(0)
	x := m.Result(I64, m.Call(0, m.Flag(0)), 0)
	m.Emit(x)
	m.Ret(m.Num(8))
	m.Next(0)
	m.Ret(m.Num(4))
	runs(t, "the first one", Unit(m), words(1), 100, api.Run{Trace: words(4), End: api.EndExit, N: 8, Steps: 3 + 6 + 3 + 2, Calls: []api.Call{
		{Args: words(1), Back: true, Results: words(8)}, {Args: words(0), Back: true, Results: words(4)},
	}})
}
