package eval_test

import (
	"math"
	"testing"

	"gantry/api"
	. "gantry/hand"
)

// three is 12's first example.
func three() *Maker {
	m := Begin()
	m.Ret(m.Num(3))
	return m
}

// TestExamples: the chapter's.
func TestExamples(t *testing.T) {
	main := func(results ...uint64) []api.Call { return []api.Call{{Back: results != nil, Results: results}} }
	runs(t, "three", Unit(three()), nil, 9, api.Run{End: api.EndExit, N: 3, Steps: 3, Calls: main(3)})
	m := Begin()
	x := m.Num(5)
	m.Ret(m.Bin(api.BinDiv, I64, x, m.Num(0)))
	runs(t, "by 0", Unit(m), nil, 9, api.Run{End: api.EndStuck, Steps: 4, Calls: main()})
}

// TestConsts: OpConst of each kind, and OpEmit of each but KindPtr.
func TestConsts(t *testing.T) {
	m := Begin()
	trace := []uint64{}
	for _, x := range []struct {
		kind int
		word uint64
	}{
		{Yes, 0}, {Yes, 1}, {I8, minus(128)}, {I8, 127}, {I16, minus(1 << 15)}, {I32, minus(1 << 31)}, {I64, 1 << 63}, {I64, minus(1)}, {U8, 255}, {U16, 65535}, {U32, 1<<32 - 1}, {U64, math.MaxUint64}, {F64, bits(-0.5)}, {F64, 0x7ff0000000000001},
	} {
		m.Emit(m.Con(x.kind, x.word))
		trace = append(trace, x.word)
	}
	p := m.Point(math.MaxUint64)
	m.Emit(m.Bin(api.BinEq, Ptr, p, m.Point(math.MaxUint64)))
	exits(t, "constants", Unit(m.Done()), append(trace, 1)...)
}

// TestArguments: OpArg, of each kind; not all of them need be asked for, nor in their order.
func TestArguments(t *testing.T) {
	params := kinds(Yes, I8, I16, I32, I64, U8, U16, U32, U64, F64, Ptr)
	given := words(1, minus(128), minus(3), minus(1<<31), 1<<63, 255, 65535, 1<<32-1, math.MaxUint64, 0xfff8000000000123, 7)
	m := Begin(params...)
	for i := range params[:10] {
		m.Emit(1 + i)
	}
	m.Emit(m.Bin(api.BinEq, Ptr, 11, m.Point(7)))
	m.Ret(5)
	ends(t, "all", Unit(m), given, api.EndExit, math.MinInt64, append(given[:10:10], 1)...)

	m = Begin()
	m.Params = kinds(I64, U8, I64)
	m.Emit(m.Add(api.OpArg, I64, 2))
	x := m.Add(api.OpArg, I64, 0)
	m.Emit(m.Add(api.OpArg, I64, 2))
	m.Ret(x)
	ends(t, "some", Unit(m), words(4, 5, 6), api.EndExit, 4, 6, 6)

	many := make([]int, api.MaxParams*api.MaxWords)
	var l []uint64
	for i := range many {
		many[i] = I64
		l = append(l, uint64(1000+i))
	}
	m = Begin(many...)
	m.Ret(len(many))
	ends(t, "as many as may be", Unit(m), l, api.EndExit, 1127)
}

// TestUn: OpUn of each operation.
func TestUn(t *testing.T) {
	m := Begin()
	m.Emit(m.Un(api.UnNeg, I8, m.Con(I8, minus(128))))
	m.Emit(m.Un(api.UnNeg, U8, m.Con(U8, 1)))
	m.Emit(m.Un(api.UnNeg, I64, m.Num(5)))
	m.Emit(m.Un(api.UnNeg, F64, m.Con(F64, 0)))
	m.Emit(m.Un(api.UnNeg, F64, m.Con(F64, 0x7ff8000000000001)))
	m.Emit(m.Un(api.UnNot, Yes, m.Flag(1)))
	m.Emit(m.Un(api.UnNot, Yes, m.Flag(0)))
	m.Emit(m.Un(api.UnCom, U16, m.Con(U16, 1)))
	m.Emit(m.Un(api.UnCom, I32, m.Con(I32, 0)))
	exits(t, "un", Unit(m.Done()), minus(128), 255, minus(5), bits(math.Copysign(0, -1)), 0xfff8000000000001, 0, 1, 65534, minus(1))
}

// TestBin: OpBin of each operation, and of words of all sorts of kinds: it is of the kind of Args, not of its own.
func TestBin(t *testing.T) {
	m := Begin()
	var trace []uint64
	holds := func(told uint64, op int64, kind int, x, y uint64) {
		second := kind
		if op == api.BinShl || op == api.BinShr {
			second = U64
		}
		a := m.Con(kind, x)
		m.Emit(m.Bin(op, kind, a, m.Con(second, y)))
		trace = append(trace, told)
	}
	holds(44, api.BinAdd, U8, 200, 100)
	holds(minus(3), api.BinSub, I16, 4, 7)
	holds(1<<32-3, api.BinSub, U32, 4, 7)
	holds(minus(2), api.BinMul, I8, 127, 2)
	holds(minus(2), api.BinDiv, I64, minus(7), 3)
	holds(minus(128), api.BinDiv, I8, minus(128), minus(1))
	holds(math.MaxUint64/3, api.BinDiv, U64, math.MaxUint64, 3)
	holds(minus(1), api.BinRem, I32, minus(7), 2)
	holds(0, api.BinRem, I64, 1<<63, minus(1))
	holds(8, api.BinAnd, I64, 12, 10)
	holds(14, api.BinOr, U8, 12, 10)
	holds(6, api.BinXor, U64, 12, 10)
	holds(1, api.BinXor, Yes, 1, 0)
	holds(0, api.BinAnd, Yes, 1, 0)
	holds(0, api.BinShl, U8, 255, 8)
	holds(minus(128), api.BinShl, I8, 1, 7)
	holds(minus(1), api.BinShr, I16, minus(1), 200)
	holds(0, api.BinShr, U16, 65535, math.MaxUint64)
	holds(1, api.BinLt, I8, minus(1), 0)
	holds(0, api.BinLt, U64, minus(1), 0)
	holds(1, api.BinEq, Yes, 1, 1)
	holds(1, api.BinNe, Ptr, 1, 2)
	holds(1, api.BinLe, I64, 3, 3)
	holds(0, api.BinGt, I64, 3, 3)
	holds(1, api.BinGe, U8, 200, 100)
	holds(bits(0.75), api.BinAdd, F64, bits(0.5), bits(0.25))
	holds(bits(math.Inf(-1)), api.BinDiv, F64, bits(-1), 0)
	holds(0x7ff8000000000000, api.BinDiv, F64, 0, 0)
	holds(0x7ff8000000000000, api.BinMul, F64, 0xfff8000000000123, bits(1))
	holds(1, api.BinEq, F64, 0, 1<<63)
	holds(1, api.BinNe, F64, 0x7ff8000000000000, 0x7ff8000000000000)
	holds(0, api.BinLe, F64, 0x7ff8000000000000, bits(1))
	exits(t, "bin", Unit(m.Done()), trace...)
}

// TestByZero: BinDiv, BinRem of an int kind by 0: EndStuck.
func TestByZero(t *testing.T) {
	for k := I8; k <= U64; k++ {
		for _, op := range []int64{api.BinDiv, api.BinRem} {
			m := Begin()
			m.Emit(m.Num(8))
			x := m.Con(k, 5)
			m.Bin(op, k, x, m.Con(k, 0))
			m.Emit(m.Num(9))
			stuck(t, "by 0", Unit(m.Done()), 8)
		}
	}
	m := Begin(I64, I64)
	m.Bin(api.BinDiv, I64, 1, 2)
	u := Unit(m.Done())
	ends(t, "a division that nobody needs", u, words(1, 0), api.EndStuck, 0)
	ends(t, "and that goes", u, words(0, 1), api.EndExit, 0)
}

// TestConv: OpConv, from the kind of Args[0] to its own.
func TestConv(t *testing.T) {
	m := Begin()
	m.Emit(m.Conv(I8, m.Con(U8, 255)))
	m.Emit(m.Conv(U16, m.Con(I8, minus(1))))
	m.Emit(m.Conv(U64, m.Con(I8, minus(1))))
	m.Emit(m.Conv(U8, m.Num(0x1234)))
	m.Emit(m.Conv(F64, m.Num(minus(3))))
	m.Emit(m.Conv(F64, m.Con(U64, math.MaxUint64)))
	m.Emit(m.Conv(I8, m.Con(F64, bits(300.7))))
	m.Emit(m.Conv(U64, m.Con(F64, 0x7ff8000000000000)))
	m.Emit(m.Conv(F64, m.Con(F64, 0x7ff0000000000001)))
	exits(t, "conv", Unit(m.Done()), minus(1), 65535, math.MaxUint64, 0x34, bits(-3), bits(1<<64), 44, 1<<63, 0x7ff0000000000001)
}

// TestSel: OpSel: Args[1], if Args[0] is true.
func TestSel(t *testing.T) {
	m := Begin()
	no, yes := m.Flag(0), m.Flag(1)
	m.Emit(m.Sel(U8, yes, m.Con(U8, 5), m.Con(U8, 6)))
	m.Emit(m.Sel(U8, no, m.Con(U8, 5), m.Con(U8, 6)))
	m.Emit(m.Sel(F64, no, m.Con(F64, bits(2)), m.Con(F64, bits(3))))
	m.Emit(m.Sel(api.KindBool, yes, no, yes))
	m.Emit(m.Bin(api.BinEq, Ptr, m.Sel(Ptr, yes, m.Data(0), m.Point(9)), m.Data(0)))
	exits(t, "sel", Unit(m.Done()), 5, 6, bits(3), 0, 1)
}

// TestAddresses: OpData, OpAddr with one and with two of Args, modulo 2^64.
func TestAddresses(t *testing.T) {
	m := Begin()
	is := func(p int, where uint64) { m.Emit(m.Bin(api.BinEq, Ptr, p, m.Point(where))) }
	is(m.Data(0), api.DataBase)
	is(m.Data(2), api.DataBase+2)
	is(m.Data(3), api.DataBase+3)
	is(m.Addr(m.Data(1), 0), api.DataBase+1)
	is(m.Addr(m.Data(1), api.MaxSize), api.DataBase+1+api.MaxSize)
	is(m.Addr(m.Point(minus(1)), 3), 2)
	is(m.Element(m.Point(100), 7, m.Con(U64, 5), 9), 152)
	is(m.Element(m.Point(100), 0, m.Con(U64, minus(2)), 8), 84)
	is(m.Element(m.Point(100), 0, m.Con(U64, 1<<63), 2), 100)
	is(m.Element(m.Point(100), 1, m.Con(U64, 1<<50), 0), 101)
	is(m.Element(m.Point(0), 0, m.Con(U64, 1<<48), api.MaxSize), 0)
	is(m.Element(m.Point(minus(1)), api.MaxSize, m.Con(U64, minus(1)), api.MaxSize), minus(1))
	exits(t, "addresses", WithData([]byte{1, 2, 3}, m.Done()), 1, 1, 1, 1, 1, 1, 1, 1, 1, 1, 1, 1)
}

// TestResult: EndExit with the result as a signed number.
func TestResult(t *testing.T) {
	for _, n := range []int64{0, 1, -1, math.MaxInt64, math.MinInt64} {
		m := Begin()
		m.Ret(m.Num(uint64(n)))
		runs(t, "a result", Unit(m), nil, 3, api.Run{End: api.EndExit, N: n, Steps: 3, Calls: []api.Call{{Back: true, Results: words(uint64(n))}}})
	}
}

// TestPanics: BlockPanic: EndPanic with its N.
func TestPanics(t *testing.T) {
	for _, n := range []int64{1, api.PanicUser, math.MaxInt32} {
		m := Begin()
		m.Emit(m.Num(4))
		m.Panics(n)
		runs(t, "a panic", Unit(m), nil, 4, api.Run{Trace: words(4), End: api.EndPanic, N: n, Steps: 4, Calls: []api.Call{{}}})
	}
}
