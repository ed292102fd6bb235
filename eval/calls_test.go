package eval_test

import (
	"testing"

	"gantry/api"
)

// greatest tells the greatest common divisor of its arguments by a call of itself: it is the Code of that number.
func greatest(number int64) *maker {
	m := begin(u64, u64)
	m.Results = kinds(u64)
	zero := m.con(u64, 0)
	m.branch(m.bin(api.BinEq, u64, 2, zero), 1, 2)
	m.next(0)
	m.ret(1)
	m.next(0)
	c := m.call(number, 2, m.bin(api.BinRem, u64, 1, 2))
	m.ret(m.result(u64, c, 0))
	return m
}

// TestItself: P15.1: a function that calls itself; its trace, its Calls, its steps.
func TestItself(t *testing.T) {
	main := begin(u64, u64)
	main.emit(main.num(1))
	c := main.call(1, 1, 2)
	x := main.result(u64, c, 0)
	main.emit(x)
	main.ret(main.conv(i64, x))
	six := words(6)
	want := api.Run{Trace: words(1, 6), End: api.EndExit, N: 6, Steps: 10 + 10 + 10 + 7, Calls: []api.Call{
		{Args: words(30, 12), Back: true, Results: six},
		{Func: 1, Args: words(30, 12), Back: true, Results: six},
		{Func: 1, Args: words(12, 6), Back: true, Results: six},
		{Func: 1, Args: words(6, 0), Back: true, Results: six},
	}}
	runs(t, "30, 12", unit(main, greatest(1)), words(30, 12), 100, want)
}

// many has words of all kinds handed over both ways, in another order.
func many() []*maker {
	params := kinds(i8, f64, ptr, yes, u16, i64, i32, u32, u64, i16, u8)
	m := begin(params...)
	var args, results []int
	for i := range params {
		args = append(args, 1+i)
	}
	c := m.call(1, args...)
	for i, k := range kinds(u8, ptr, i8, yes) {
		results = append(results, m.result(k, c, int64(i)))
	}
	m.emit(results[2])
	m.emit(results[0])
	m.emit(m.bin(api.BinEq, ptr, results[1], 3))
	m.ret(6)
	other := function(params, kinds(u8, ptr, i8, yes))
	other.ret(11, 3, 1, 4)
	return []*maker{m, other}
}

// TestManyWords: parameters' and results' words of all kinds, in their order.
func TestManyWords(t *testing.T) {
	args := words(minus(1), bits(-0.5), 12345, 1, 65535, minus(7), minus(9), 1<<32-1, minus(1), minus(300), 200)
	runs(t, "many", unit(many()...), args, 100, api.Run{Trace: words(minus(1), 200, 1), End: api.EndExit, N: -7, Steps: 12 + 5 + 4 + 1 + 13, Calls: []api.Call{
		{Args: args, Back: true, Results: words(minus(7))},
		{Func: 1, Args: args, Back: true, Results: words(200, 12345, minus(1), 1)},
	}})
}

// TestNoWords: a function may have neither parameters nor results; a result need not be asked for, or may be often, and late.
func TestNoWords(t *testing.T) {
	m := begin()
	m.call(1)
	first := m.call(2)
	m.call(1)
	second := m.call(2)
	m.emit(m.result(i64, first, 1))
	m.emit(m.result(i64, second, 0))
	m.emit(m.result(i64, first, 1))
	m.ret(m.result(i64, first, 0))
	nothing := function(nil, nil)
	nothing.ret()
	two := function(nil, kinds(i64, i64))
	eight := two.num(8)
	two.ret(eight, two.num(9))
	none := api.Call{Func: 1, Back: true}
	both := api.Call{Func: 2, Back: true, Results: words(8, 9)}
	runs(t, "none", unit(m, nothing, two), nil, 100, api.Run{Trace: words(9, 8, 9), End: api.EndExit, N: 8, Steps: 13 + 2*2 + 4*2, Calls: []api.Call{{Back: true, Results: words(8)}, none, both, none, both}})
}

// TestOneValueTwice: one value may be handed over twice, and told twice.
func TestOneValueTwice(t *testing.T) {
	m := begin(i64)
	c := m.call(1, 1, 1)
	first := m.result(i64, c, 0)
	m.ret(m.bin(api.BinSub, i64, first, m.result(i64, c, 1)))
	other := function(kinds(i64, i64), kinds(i64, i64))
	other.ret(other.bin(api.BinAdd, i64, 1, 2), 1)
	runs(t, "twice", unit(m, other), words(21), 100, api.Run{End: api.EndExit, N: 21, Steps: 7 + 5, Calls: []api.Call{
		{Args: words(21), Back: true, Results: words(21)},
		{Func: 1, Args: words(21, 21), Back: true, Results: words(42, 21)},
	}})
}

// TestOwnWords: the words of a function's values are its own in each of its calls: a call of itself changes none of them.
func TestOwnWords(t *testing.T) {
	m := begin(i64)
	zero, one := m.num(0), m.num(1)
	m.branch(m.bin(api.BinGt, i64, 1, zero), 1, 2)
	m.next(0)
	double := m.bin(api.BinAdd, i64, 1, 1)
	block := m.block(8)
	m.store(block, 0, 1)
	c := m.call(0, m.bin(api.BinSub, i64, 1, one))
	m.emit(double)
	m.emit(1)
	m.emit(m.load(i64, block, 0))
	m.ret(m.bin(api.BinAdd, i64, double, m.result(i64, c, 0)))
	m.next(0)
	m.ret(zero)
	ends(t, "own words", unit(m), words(3), api.EndExit, 12, 2, 1, 1, 4, 2, 2, 6, 3, 3)
}

// TestMemoryOfAll: all functions have one memory, one heap, one trace.
func TestMemoryOfAll(t *testing.T) {
	m := begin()
	p := m.block(8)
	x := m.num(5)
	m.store(p, 0, x)
	m.emit(x)
	q := m.result(ptr, m.call(1, p), 0)
	m.emit(m.load(i64, p, 0))
	m.emit(m.load(i64, q, 0))
	m.emit(m.load(u8, m.data(0), 0))
	m.store(m.block(0), 0, x)
	m.emit(m.load(i64, q, 8))
	other := function(kinds(ptr), kinds(ptr))
	r := other.block(8)
	v := other.load(i64, 1, 0)
	other.emit(v)
	other.store(r, 0, other.bin(api.BinAdd, i64, v, other.num(1)))
	other.store(1, 0, other.num(7))
	other.store(other.data(0), 0, other.con(u8, 9))
	other.ret(r)
	exits(t, "of all", withData([]byte{1}, m.done(), other), 5, 5, 7, 6, 9, 5)
}

// deep calls itself as often as its argument says, and tells how often that was: it is the Code of that number.
func deep(number int64) *maker {
	m := begin(i64)
	zero, one := m.num(0), m.num(1)
	m.branch(m.bin(api.BinGt, i64, 1, zero), 1, 2)
	m.next(0)
	c := m.call(number, m.bin(api.BinSub, i64, 1, one))
	m.ret(m.bin(api.BinAdd, i64, m.result(i64, c, 0), one))
	m.next(0)
	m.ret(zero)
	return m
}

// TestAway: 1024 functions may be away, the Code 0 among them; one more ends the run by EndResource.
func TestAway(t *testing.T) {
	u := unit(deep(0))
	for _, n := range []uint64{0, 1, 1000, 1022, 1023} {
		r := ran(t, "away", u, words(n), 100000)
		if r.End != api.EndExit || r.N != int64(n) || len(r.Calls) != int(n)+1 || r.Steps != int(n)*11+7 {
			t.Errorf("%d: %d, %d, %d calls, %d steps", n, r.End, r.N, len(r.Calls), r.Steps)
		}
		for i, c := range r.Calls {
			if left := n - uint64(i); !sameCall(c, api.Call{Args: words(left), Back: true, Results: words(left)}) {
				t.Errorf("%d: %d: %+v", n, i, c)
			}
		}
	}
	for _, n := range []uint64{1024, 1025, 5000} {
		r := ran(t, "too many away", u, words(n), 100000)
		if r.End != api.EndResource || r.N != 0 || len(r.Calls) != 1025 || r.Steps != 1024*8 {
			t.Errorf("%d: %d, %d, %d calls, %d steps", n, r.End, r.N, len(r.Calls), r.Steps)
		}
		for i, c := range r.Calls {
			if !sameCall(c, api.Call{Args: words(n - uint64(i))}) {
				t.Errorf("%d: %d: %+v", n, i, c)
			}
		}
	}
	r := ran(t, "no fuel for one more", u, words(1024), 1024*8-1)
	if r.End != api.EndFuel || len(r.Calls) != 1024 {
		t.Errorf("%d, %d calls", r.End, len(r.Calls))
	}
}

// TestBackAgain: what is back is not away any more.
func TestBackAgain(t *testing.T) {
	m := begin()
	for range 3000 {
		m.call(1)
	}
	nothing := function(nil, nil)
	nothing.ret()
	exits(t, "one behind the other", unit(m.done(), nothing))
	for _, n := range []uint64{1022, 1023} {
		m = begin()
		for range 3 {
			m.call(1, m.num(n))
			m.emit(m.num(n))
		}
		u := unit(m.done(), deep(1))
		if n == 1022 {
			exits(t, "deep ones, one behind the other", u, n, n, n)
		} else {
			full(t, "one that is too deep", u)
		}
	}
}

// TestNotBack: a call that did not come back has neither Back nor results; one that did ahead of it has.
func TestNotBack(t *testing.T) {
	last := function(kinds(u8), kinds(i64))
	zero := last.con(u8, 0)
	last.branch(last.bin(api.BinEq, u8, 1, zero), 1, 2)
	last.next(0)
	last.panics(77)
	last.next(0)
	last.ret(last.num(5))
	main := begin(u8)
	main.call(2, main.con(u8, 1))
	main.emit(main.num(1))
	x := main.call(1, 1)
	main.emit(main.num(2))
	main.ret(main.result(i64, x, 0))
	between := function(kinds(u8), kinds(i64))
	x = between.call(2, 1)
	between.emit(between.num(3))
	between.ret(between.result(i64, x, 0))
	u := unit(main, between, last)
	back := func(f int, arg, result uint64) api.Call {
		return api.Call{Func: f, Args: words(arg), Back: true, Results: words(result)}
	}
	away := func(f int, arg uint64) api.Call { return api.Call{Func: f, Args: words(arg)} }
	runs(t, "not back", u, words(0), 100, api.Run{Trace: words(1), End: api.EndPanic, N: 77, Steps: 7 + 7 + 3 + 6, Calls: []api.Call{away(0, 0), back(2, 1, 5), away(1, 0), away(2, 0)}})
	all := []api.Call{back(0, 9, 5), back(2, 1, 5), back(1, 9, 5), back(2, 9, 5)}
	runs(t, "back", u, words(9), 100, api.Run{Trace: words(1, 3, 2), End: api.EndExit, N: 5, Steps: 11 + 7 + 7 + 7, Calls: all})
	r := ran(t, "no fuel for the end of the last one", u, words(9), 7+7+3+6)
	if r.End != api.EndFuel || len(r.Calls) != 4 || !sameCall(r.Calls[3], away(2, 9)) || !sameCall(r.Calls[1], all[1]) {
		t.Errorf("%+v", r)
	}
	r = ran(t, "no fuel behind it", u, words(9), 7+7+3+7)
	if r.End != api.EndFuel || len(r.Calls) != 4 || !sameCall(r.Calls[3], all[3]) || !sameCall(r.Calls[2], away(1, 9)) {
		t.Errorf("%+v", r)
	}
	r = ran(t, "no fuel for a call's first value", u, words(9), 3)
	if r.End != api.EndFuel || len(r.Calls) != 1 {
		t.Errorf("%+v", r)
	}
	r = ran(t, "a call and no more", u, words(9), 4)
	if r.End != api.EndFuel || len(r.Calls) != 2 || !sameCall(r.Calls[1], away(2, 1)) {
		t.Errorf("%+v", r)
	}
}

// TestCallOfFirst: the Code 0 may be called, too: its end is a run's end only the first time.
func TestCallOfFirst(t *testing.T) {
	m := begin(yes)
	m.branch(1, 1, 2)
	m.next(0)
	x := m.result(i64, m.call(0, m.flag(0)), 0)
	m.emit(x)
	m.ret(m.num(8))
	m.next(0)
	m.ret(m.num(4))
	runs(t, "the first one", unit(m), words(1), 100, api.Run{Trace: words(4), End: api.EndExit, N: 8, Steps: 3 + 6 + 3 + 2, Calls: []api.Call{
		{Args: words(1), Back: true, Results: words(8)}, {Args: words(0), Back: true, Results: words(4)},
	}})
}
