package eval_test

import (
	"math"
	"testing"

	"gantry/api"
)

// three is 12's first example.
func three() *maker {
	m := begin()
	m.ret(m.num(3))
	return m
}

// TestExamples: the chapter's.
func TestExamples(t *testing.T) {
	main := func(results ...uint64) []api.Call { return []api.Call{{Back: results != nil, Results: results}} }
	runs(t, "three", unit(three()), nil, 9, api.Run{End: api.EndExit, N: 3, Steps: 3, Calls: main(3)})
	m := begin()
	x := m.num(5)
	m.ret(m.bin(api.BinDiv, i64, x, m.num(0)))
	runs(t, "by 0", unit(m), nil, 9, api.Run{End: api.EndStuck, Steps: 4, Calls: main()})
}

// TestConsts: OpConst of each kind, and OpEmit of each but KindPtr.
func TestConsts(t *testing.T) {
	m := begin()
	trace := []uint64{}
	for _, x := range []struct {
		kind int
		word uint64
	}{
		{yes, 0}, {yes, 1}, {i8, minus(128)}, {i8, 127}, {i16, minus(1 << 15)}, {i32, minus(1 << 31)}, {i64, 1 << 63}, {i64, minus(1)}, {u8, 255}, {u16, 65535}, {u32, 1<<32 - 1}, {u64, math.MaxUint64}, {f64, bits(-0.5)}, {f64, 0x7ff0000000000001},
	} {
		m.emit(m.con(x.kind, x.word))
		trace = append(trace, x.word)
	}
	p := m.point(math.MaxUint64)
	m.emit(m.bin(api.BinEq, ptr, p, m.point(math.MaxUint64)))
	exits(t, "constants", unit(m.done()), append(trace, 1)...)
}

// TestArguments: OpArg, of each kind; not all of them need be asked for, nor in their order.
func TestArguments(t *testing.T) {
	params := kinds(yes, i8, i16, i32, i64, u8, u16, u32, u64, f64, ptr)
	given := words(1, minus(128), minus(3), minus(1<<31), 1<<63, 255, 65535, 1<<32-1, math.MaxUint64, 0xfff8000000000123, 7)
	m := begin(params...)
	for i := range params[:10] {
		m.emit(1 + i)
	}
	m.emit(m.bin(api.BinEq, ptr, 11, m.point(7)))
	m.ret(5)
	ends(t, "all", unit(m), given, api.EndExit, math.MinInt64, append(given[:10:10], 1)...)

	m = begin()
	m.Params = kinds(i64, u8, i64)
	m.emit(m.add(api.OpArg, i64, 2))
	x := m.add(api.OpArg, i64, 0)
	m.emit(m.add(api.OpArg, i64, 2))
	m.ret(x)
	ends(t, "some", unit(m), words(4, 5, 6), api.EndExit, 4, 6, 6)

	many := make([]int, api.MaxParams*api.MaxWords)
	var l []uint64
	for i := range many {
		many[i] = i64
		l = append(l, uint64(1000+i))
	}
	m = begin(many...)
	m.ret(len(many))
	ends(t, "as many as may be", unit(m), l, api.EndExit, 1127)
}

// TestUn: OpUn of each operation.
func TestUn(t *testing.T) {
	m := begin()
	m.emit(m.un(api.UnNeg, i8, m.con(i8, minus(128))))
	m.emit(m.un(api.UnNeg, u8, m.con(u8, 1)))
	m.emit(m.un(api.UnNeg, i64, m.num(5)))
	m.emit(m.un(api.UnNeg, f64, m.con(f64, 0)))
	m.emit(m.un(api.UnNeg, f64, m.con(f64, 0x7ff8000000000001)))
	m.emit(m.un(api.UnNot, yes, m.flag(1)))
	m.emit(m.un(api.UnNot, yes, m.flag(0)))
	m.emit(m.un(api.UnCom, u16, m.con(u16, 1)))
	m.emit(m.un(api.UnCom, i32, m.con(i32, 0)))
	exits(t, "un", unit(m.done()), minus(128), 255, minus(5), bits(math.Copysign(0, -1)), 0xfff8000000000001, 0, 1, 65534, minus(1))
}

// TestBin: OpBin of each operation, and of words of all sorts of kinds: it is of the kind of Args, not of its own.
func TestBin(t *testing.T) {
	m := begin()
	var trace []uint64
	holds := func(told uint64, op int64, kind int, x, y uint64) {
		second := kind
		if op == api.BinShl || op == api.BinShr {
			second = u64
		}
		a := m.con(kind, x)
		m.emit(m.bin(op, kind, a, m.con(second, y)))
		trace = append(trace, told)
	}
	holds(44, api.BinAdd, u8, 200, 100)
	holds(minus(3), api.BinSub, i16, 4, 7)
	holds(1<<32-3, api.BinSub, u32, 4, 7)
	holds(minus(2), api.BinMul, i8, 127, 2)
	holds(minus(2), api.BinDiv, i64, minus(7), 3)
	holds(minus(128), api.BinDiv, i8, minus(128), minus(1))
	holds(math.MaxUint64/3, api.BinDiv, u64, math.MaxUint64, 3)
	holds(minus(1), api.BinRem, i32, minus(7), 2)
	holds(0, api.BinRem, i64, 1<<63, minus(1))
	holds(8, api.BinAnd, i64, 12, 10)
	holds(14, api.BinOr, u8, 12, 10)
	holds(6, api.BinXor, u64, 12, 10)
	holds(1, api.BinXor, yes, 1, 0)
	holds(0, api.BinAnd, yes, 1, 0)
	holds(0, api.BinShl, u8, 255, 8)
	holds(minus(128), api.BinShl, i8, 1, 7)
	holds(minus(1), api.BinShr, i16, minus(1), 200)
	holds(0, api.BinShr, u16, 65535, math.MaxUint64)
	holds(1, api.BinLt, i8, minus(1), 0)
	holds(0, api.BinLt, u64, minus(1), 0)
	holds(1, api.BinEq, yes, 1, 1)
	holds(1, api.BinNe, ptr, 1, 2)
	holds(1, api.BinLe, i64, 3, 3)
	holds(0, api.BinGt, i64, 3, 3)
	holds(1, api.BinGe, u8, 200, 100)
	holds(bits(0.75), api.BinAdd, f64, bits(0.5), bits(0.25))
	holds(bits(math.Inf(-1)), api.BinDiv, f64, bits(-1), 0)
	holds(0x7ff8000000000000, api.BinDiv, f64, 0, 0)
	holds(0x7ff8000000000000, api.BinMul, f64, 0xfff8000000000123, bits(1))
	holds(1, api.BinEq, f64, 0, 1<<63)
	holds(1, api.BinNe, f64, 0x7ff8000000000000, 0x7ff8000000000000)
	holds(0, api.BinLe, f64, 0x7ff8000000000000, bits(1))
	exits(t, "bin", unit(m.done()), trace...)
}

// TestByZero: BinDiv, BinRem of an int kind by 0: EndStuck.
func TestByZero(t *testing.T) {
	for k := i8; k <= u64; k++ {
		for _, op := range []int64{api.BinDiv, api.BinRem} {
			m := begin()
			m.emit(m.num(8))
			x := m.con(k, 5)
			m.bin(op, k, x, m.con(k, 0))
			m.emit(m.num(9))
			stuck(t, "by 0", unit(m.done()), 8)
		}
	}
	m := begin(i64, i64)
	m.bin(api.BinDiv, i64, 1, 2)
	u := unit(m.done())
	ends(t, "a division that nobody needs", u, words(1, 0), api.EndStuck, 0)
	ends(t, "and that goes", u, words(0, 1), api.EndExit, 0)
}

// TestConv: OpConv, from the kind of Args[0] to its own.
func TestConv(t *testing.T) {
	m := begin()
	m.emit(m.conv(i8, m.con(u8, 255)))
	m.emit(m.conv(u16, m.con(i8, minus(1))))
	m.emit(m.conv(u64, m.con(i8, minus(1))))
	m.emit(m.conv(u8, m.num(0x1234)))
	m.emit(m.conv(f64, m.num(minus(3))))
	m.emit(m.conv(f64, m.con(u64, math.MaxUint64)))
	m.emit(m.conv(i8, m.con(f64, bits(300.7))))
	m.emit(m.conv(u64, m.con(f64, 0x7ff8000000000000)))
	m.emit(m.conv(f64, m.con(f64, 0x7ff0000000000001)))
	exits(t, "conv", unit(m.done()), minus(1), 65535, math.MaxUint64, 0x34, bits(-3), bits(1<<64), 44, 1<<63, 0x7ff0000000000001)
}

// TestSel: OpSel: Args[1], if Args[0] is true.
func TestSel(t *testing.T) {
	m := begin()
	no, yes := m.flag(0), m.flag(1)
	m.emit(m.sel(u8, yes, m.con(u8, 5), m.con(u8, 6)))
	m.emit(m.sel(u8, no, m.con(u8, 5), m.con(u8, 6)))
	m.emit(m.sel(f64, no, m.con(f64, bits(2)), m.con(f64, bits(3))))
	m.emit(m.sel(api.KindBool, yes, no, yes))
	m.emit(m.bin(api.BinEq, ptr, m.sel(ptr, yes, m.data(0), m.point(9)), m.data(0)))
	exits(t, "sel", unit(m.done()), 5, 6, bits(3), 0, 1)
}

// TestAddresses: OpData, OpAddr with one and with two of Args, modulo 2^64.
func TestAddresses(t *testing.T) {
	m := begin()
	is := func(p int, where uint64) { m.emit(m.bin(api.BinEq, ptr, p, m.point(where))) }
	is(m.data(0), api.DataBase)
	is(m.data(2), api.DataBase+2)
	is(m.data(3), api.DataBase+3)
	is(m.addr(m.data(1), 0), api.DataBase+1)
	is(m.addr(m.data(1), api.MaxSize), api.DataBase+1+api.MaxSize)
	is(m.addr(m.point(minus(1)), 3), 2)
	is(m.element(m.point(100), 7, m.con(u64, 5), 9), 152)
	is(m.element(m.point(100), 0, m.con(u64, minus(2)), 8), 84)
	is(m.element(m.point(100), 0, m.con(u64, 1<<63), 2), 100)
	is(m.element(m.point(100), 1, m.con(u64, 1<<50), 0), 101)
	is(m.element(m.point(0), 0, m.con(u64, 1<<48), api.MaxSize), 0)
	is(m.element(m.point(minus(1)), api.MaxSize, m.con(u64, minus(1)), api.MaxSize), minus(1))
	exits(t, "addresses", withData([]byte{1, 2, 3}, m.done()), 1, 1, 1, 1, 1, 1, 1, 1, 1, 1, 1, 1)
}

// TestResult: EndExit with the result as a signed number.
func TestResult(t *testing.T) {
	for _, n := range []int64{0, 1, -1, math.MaxInt64, math.MinInt64} {
		m := begin()
		m.ret(m.num(uint64(n)))
		runs(t, "a result", unit(m), nil, 3, api.Run{End: api.EndExit, N: n, Steps: 3, Calls: []api.Call{{Back: true, Results: words(uint64(n))}}})
	}
}

// TestPanics: BlockPanic: EndPanic with its N.
func TestPanics(t *testing.T) {
	for _, n := range []int64{1, api.PanicUser, math.MaxInt32} {
		m := begin()
		m.emit(m.num(4))
		m.panics(n)
		runs(t, "a panic", unit(m), nil, 4, api.Run{Trace: words(4), End: api.EndPanic, N: n, Steps: 4, Calls: []api.Call{{}}})
	}
}
