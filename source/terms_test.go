package source_test

import (
	"math"
	"slices"
	"strconv"
	"testing"

	"gantry/api"
	. "gantry/draft"
	"gantry/source"
)

// TestConst: ExprConst: N's word, at the edges of each kind.
func TestConst(t *testing.T) {
	for _, k := range Wholes() {
		for _, n := range []int64{0, 1, Least(k), Greatest(k)} {
			tells(t, "a constant", Con(k, n), uint64(n), nil)
		}
	}
	for _, x := range []uint64{0, Minus0, Inf, MinusInf, Nan, OtherNaN, BitsOf(1.5)} {
		tells(t, "a float", Float(x), x, nil)
	}
	tells(t, "no", Con(Yes, 0), 0, nil)
	tells(t, "yes", Con(Yes, 1), 1, nil)
}

// TestNil: ExprNil: a word that is 0, two of a slice.
func TestNil(t *testing.T) {
	for k, want := range map[int]int{To64: 1, ToMix: 1, Self: 1, ToWide: 1, List: 2, Nones: 2, Wides: 2} {
		if w := handed(t, k, Null(k), nil); !slices.Equal(w, make([]uint64, want)) {
			t.Errorf("%d: %d", k, w)
		}
	}
	tells(t, "no elements", Length(Null(List)), 0, nil)
	tells(t, "nil is nil", Compare(api.BinEq, Null(To64), Null(To64)), 1, nil)
}

// TestTexts: ExprStr: where the i-th text begins, and its length: functions in order, a statement's Args, then A, then B.
func TestTexts(t *testing.T) {
	say := func(s string) api.Stmt { return Call(2, nil, Str(s)) }
	twice := Body(say("twice"))
	p := Program(
		Function(0, nil, []int{I64},
			When(Compare(api.BinLt, Length(Str("first")), Length(Str(""))), Body(say("never")), Body(say("else"), say(""))),
			When(Con(Yes, 1), twice, twice), say("x"), Call(1, nil), say("last"), Ret(Num(0))),
		Function(0, nil, nil, Call(3, nil, Str("left"), Made(Mix, Con(Yes, 1), Str("in"), Made(Pair, Con(U8, 1), Num(1)), Con(U16, 1), Null(List), Made(None), Con(I8, 1)), Str("right")), When(Con(Yes, 0), nil, twice), say("end"), Ret()),
		Function(1, []int{Text}, nil, Ret()),
		Function(3, []int{Text, Mix, Text}, nil, Ret()))
	r, e := source.Run(p, nil, 100)
	if e != api.OK || r.End != api.EndExit {
		t.Fatalf("%+v, %d", r, e)
	}
	// The texts: first, "", never, else, "", twice, twice, x, last; left, in, right, twice, end.
	at := func(n, size uint64) []uint64 { return words(api.DataBase+n, size) }
	want := [][]uint64{nil, at(10, 4), at(14, 0), at(14, 5), at(24, 1), nil,
		{api.DataBase + 29, 4, 1, api.DataBase + 33, 2, 1, 1, 1, 0, 0, 1, api.DataBase + 35, 5}, at(40, 5), at(45, 3), at(25, 4)}
	for i, c := range r.Calls {
		if i >= len(want) || !slices.Equal(c.Args, want[i]) {
			t.Errorf("call %d: %d", i, c.Args)
		}
	}
	if len(r.Calls) != len(want) {
		t.Errorf("%d calls", len(r.Calls))
	}
}

// TestTextsOfChoices: the texts of a statement's Args stand ahead of those of its A, and these ahead of its B's.
func TestTextsOfChoices(t *testing.T) {
	is := func(s string) api.Expr { return Compare(api.BinEq, Index(Str(s), Num(1)), Con(U8, int64(s[1]))) }
	say := func(s string) []api.Stmt {
		var l []api.Stmt
		for i := range s {
			l = append(l, Emit(Index(Str(s), Num(int64(i)))))
		}
		return l
	}
	p := Alone(nil, When(is("xy"), say("abc"), say("defg")), When(Un(api.UnNot, is("uvw")), say("hi"), say("jkl")), Ret(Num(0)))
	runs(t, "choices", p, nil, 100, exits(0, 'a', 'b', 'c', 'j', 'k', 'l'))
}

// TestTextBytes: a text's bytes stand where it begins, each of its own place.
func TestTextBytes(t *testing.T) {
	all := make([]byte, 256)
	for i := range all {
		all[i] = byte(i)
	}
	for i := range 256 {
		tells(t, "a byte", Index(Str(string(all)), Num(int64(i))), uint64(i), nil, emit0(Str("ahead"))...)
	}
}

// emit0 is statements that tell nothing, and have these terms in them.
func emit0(l ...api.Expr) []api.Stmt {
	var a []api.Stmt
	for _, x := range l {
		a = append(a, Emit(Length(x)))
	}
	return Body(When(Con(Yes, 0), a, nil))
}

// TestLocals: ExprLocal: 0 at first, of all words; what was set, of that local alone.
func TestLocals(t *testing.T) {
	for _, k := range []int{I64, Yes, F64, Text, List, Mix, Full, None, To64} {
		for _, w := range handed(t, k, Loc(1), []int{U8, k, U8}, Set(0, Con(U8, 7)), Set(2, Con(U8, 9))) {
			if w != 0 {
				t.Errorf("%d: %d", k, w)
			}
		}
	}
	put := Body(Set(1, Made(Pair, Con(U8, 5), Num(-6))), Set(0, Con(U8, 7)), Set(2, Con(U8, 9)))
	if w := handed(t, Pair, Loc(1), []int{U8, Pair, U8}, put...); !slices.Equal(w, words(5, minus(6))) {
		t.Errorf("%d", w)
	}
	tells(t, "ahead", Loc(0), 7, []int{U8, Pair, U8}, put...)
	tells(t, "behind", Loc(2), 9, []int{U8, Pair, U8}, put...)
}

// TestUnary: ExprUn: word's, of each kind.
func TestUnary(t *testing.T) {
	for _, k := range Wholes() {
		low := uint64(Greatest(k)) // of an unsigned kind 0 less 1 is the greatest, too
		if IsSigned(k) {
			low = minus(1)
		}
		tells(t, "less one", Un(api.UnNeg, Con(k, 1)), low, nil)
		tells(t, "less none", Un(api.UnNeg, Con(k, 0)), 0, nil)
		tells(t, "less the least", Un(api.UnNeg, Con(k, Least(k))), uint64(Least(k)), nil)
		tells(t, "all bits", Un(api.UnCom, Con(k, 0)), low, nil)
		tells(t, "all bits but one", Un(api.UnCom, Con(k, 1)), low-1, nil)
	}
	tells(t, "not no", Un(api.UnNot, Con(Yes, 0)), 1, nil)
	tells(t, "not yes", Un(api.UnNot, Con(Yes, 1)), 0, nil)
	tells(t, "less nought", Un(api.UnNeg, Float(0)), Minus0, nil)
	tells(t, "less a NaN", Un(api.UnNeg, Float(Nan)), Nan|Minus0, nil)
	tells(t, "less an infinity", Un(api.UnNeg, Float(MinusInf)), Inf, nil)
}

// TestBinary: ExprBin: word's, of each operation, each kind.
func TestBinary(t *testing.T) {
	for _, c := range []struct {
		k    int
		x, y int64
		want []int64 // of BinAdd to BinXor, BinEq to BinGe
	}{
		{I64, 7, -2, []int64{5, 9, -14, -3, 1, 6, -1, -7, 0, 1, 0, 0, 1, 1}},
		{I64, math.MaxInt64, 2, []int64{math.MinInt64 + 1, math.MaxInt64 - 2, -2, math.MaxInt64 / 2, 1, 2, math.MaxInt64, math.MaxInt64 - 2, 0, 1, 0, 0, 1, 1}},
		{I64, math.MinInt64, -1, []int64{math.MaxInt64, math.MinInt64 + 1, math.MinInt64, math.MinInt64, 0, math.MinInt64, -1, math.MaxInt64, 0, 1, 1, 1, 0, 0}},
		{I32, math.MinInt32, -1, []int64{math.MaxInt32, math.MinInt32 + 1, math.MinInt32, math.MinInt32, 0, math.MinInt32, -1, math.MaxInt32, 0, 1, 1, 1, 0, 0}},
		{I16, math.MinInt16, -1, []int64{math.MaxInt16, math.MinInt16 + 1, math.MinInt16, math.MinInt16, 0, math.MinInt16, -1, math.MaxInt16, 0, 1, 1, 1, 0, 0}},
		{I8, math.MinInt8, -1, []int64{math.MaxInt8, math.MinInt8 + 1, math.MinInt8, math.MinInt8, 0, math.MinInt8, -1, math.MaxInt8, 0, 1, 1, 1, 0, 0}},
		{I8, 100, 100, []int64{-56, 0, 16, 1, 0, 100, 100, 0, 1, 0, 0, 1, 0, 1}},
		{U8, 200, 100, []int64{44, 100, 32, 2, 0, 64, 236, 172, 0, 1, 0, 0, 1, 1}},
		{U16, 1, 65535, []int64{0, 2, 65535, 0, 1, 1, 65535, 65534, 0, 1, 1, 1, 0, 0}},
		{U32, 1, 1<<32 - 1, []int64{0, 2, 1<<32 - 1, 0, 1, 1, 1<<32 - 1, 1<<32 - 2, 0, 1, 1, 1, 0, 0}},
		{U64, -1, 2, []int64{1, -3, -2, math.MaxInt64, 1, 2, -1, -3, 0, 1, 0, 0, 1, 1}},
	} {
		for i, want := range c.want {
			op, tell := int64(api.BinAdd+i), Bin
			if i >= 8 {
				op, tell = int64(api.BinEq+i-8), Compare
			}
			tells(t, "operation "+strconv.FormatInt(op, 10), tell(op, Con(c.k, c.x), Con(c.k, c.y)), uint64(want), nil)
		}
	}
	for i, want := range []uint64{0, 1, 1} { // of no, yes
		tells(t, "bools", Bin(int64(api.BinAnd+i), Con(Yes, 0), Con(Yes, 1)), want, nil)
	}
	tells(t, "equal bools", Compare(api.BinEq, Con(Yes, 1), Con(Yes, 1)), 1, nil)
	tells(t, "other bools", Compare(api.BinNe, Con(Yes, 1), Con(Yes, 1)), 0, nil)
}

// TestFloats: ExprBin of KindF64: signed noughts, NaNs, infinities, the rounding.
func TestFloats(t *testing.T) {
	one, two, half := BitsOf(1), BitsOf(2), BitsOf(0.5)
	for _, c := range []struct {
		op         int64
		x, y, want uint64
	}{
		{api.BinAdd, one, half, BitsOf(1.5)}, {api.BinAdd, BitsOf(0.1), BitsOf(0.2), 0x3fd3333333333334}, {api.BinAdd, Inf, MinusInf, Nan}, {api.BinAdd, OtherNaN, one, Nan}, {api.BinAdd, Minus0, 0, 0}, {api.BinAdd, Minus0, Minus0, Minus0}, {api.BinAdd, BitsOf(1 << 53), one, BitsOf(1 << 53)},
		{api.BinSub, one, two, BitsOf(-1)}, {api.BinSub, Inf, Inf, Nan}, {api.BinSub, 0, 0, 0}, {api.BinSub, Minus0, 0, Minus0},
		{api.BinMul, two, half, one}, {api.BinMul, Inf, 0, Nan}, {api.BinMul, BitsOf(-1), 0, Minus0}, {api.BinMul, BitsOf(math.MaxFloat64), two, Inf}, {api.BinMul, 1, half, 0},
		{api.BinDiv, one, two, half}, {api.BinDiv, one, 0, Inf}, {api.BinDiv, one, Minus0, MinusInf}, {api.BinDiv, 0, 0, Nan}, {api.BinDiv, Inf, Inf, Nan}, {api.BinDiv, one, BitsOf(3), 0x3fd5555555555555},
	} {
		tells(t, "floats", Bin(c.op, Float(c.x), Float(c.y)), c.want, nil)
	}
	for _, c := range []struct {
		x, y uint64
		want [6]uint64 // BinEq, BinNe, BinLt, BinLe, BinGt, BinGe
	}{
		{0, Minus0, [6]uint64{1, 0, 0, 1, 0, 1}}, {one, two, [6]uint64{0, 1, 1, 1, 0, 0}}, {Nan, Nan, [6]uint64{0, 1, 0, 0, 0, 0}}, {one, OtherNaN, [6]uint64{0, 1, 0, 0, 0, 0}}, {Inf, MinusInf, [6]uint64{0, 1, 0, 0, 1, 1}}, {BitsOf(-2), BitsOf(-1), [6]uint64{0, 1, 1, 1, 0, 0}},
	} {
		for i, want := range c.want {
			tells(t, "floats held against each other", Compare(int64(api.BinEq+i), Float(c.x), Float(c.y)), want, nil)
		}
	}
}

// TestDivision: PanicDiv by 0 of whole numbers alone.
func TestDivision(t *testing.T) {
	for _, k := range Wholes() {
		for _, op := range []int64{api.BinDiv, api.BinRem} {
			ends(t, "by 0", k, Bin(op, Con(k, 7), Con(k, 0)), panics(api.PanicDiv))
			ends(t, "0 by 0", k, Bin(op, Con(k, 0), Con(k, 0)), panics(api.PanicDiv))
			tells(t, "0 by 1", Bin(op, Con(k, 0), Con(k, 1)), 0, nil)
		}
	}
	tells(t, "-7 by 2", Bin(api.BinDiv, Num(-7), Num(2)), minus(3), nil)
	tells(t, "left of -7", Bin(api.BinRem, Num(-7), Num(2)), minus(1), nil)
}

// TestShifts: BinShl, BinShr by words of all kinds: by 0, by all bits, by more; PanicShift below 0.
func TestShifts(t *testing.T) {
	for _, k := range Wholes() {
		width := map[int]int64{I8: 8, U8: 8, I16: 16, U16: 16, I32: 32, U32: 32, I64: 64, U64: 64}[k]
		all := uint64(0)
		if IsSigned(k) {
			all = minus(1)
		}
		for _, by := range Wholes() {
			tells(t, "left by 0", Bin(api.BinShl, Con(k, 5), Con(by, 0)), 5, nil)
			tells(t, "left by 1", Bin(api.BinShl, Con(k, 5), Con(by, 1)), 10, nil)
			tells(t, "right by 0", Bin(api.BinShr, Con(k, Least(k)), Con(by, 0)), uint64(Least(k)), nil)
			tells(t, "right by 2", Bin(api.BinShr, Con(k, 100), Con(by, 2)), 25, nil)
			for _, far := range []int64{width, width + 1, 100, Greatest(by)} {
				tells(t, "left by all", Bin(api.BinShl, Con(k, 5), Con(by, far)), 0, nil)
				tells(t, "right by all", Bin(api.BinShr, Con(k, Greatest(k)), Con(by, far)), 0, nil)
				tells(t, "right by all, below 0", Bin(api.BinShr, Con(k, Least(k)), Con(by, far)), all, nil)
			}
			if !IsSigned(by) {
				continue
			}
			for _, op := range []int64{api.BinShl, api.BinShr} {
				ends(t, "by -1", k, Bin(op, Con(k, 5), Con(by, -1)), panics(api.PanicShift))
				ends(t, "by the least", k, Bin(op, Con(k, 0), Con(by, Least(by))), panics(api.PanicShift))
			}
		}
		tells(t, "left by all but one", Bin(api.BinShl, Con(k, 1), Num(width-1)), top(k), nil)
	}
}

// top is the word whose highest bit alone is 1.
func top(t int) uint64 {
	if IsSigned(t) {
		return uint64(Least(t))
	}
	return uint64(Greatest(t)) - uint64(Greatest(t))>>1
}

// TestLogic: ExprAnd, ExprOr: Args[1] is asked only if it must be.
func TestLogic(t *testing.T) {
	no, sure := Con(Yes, 0), Con(Yes, 1)
	bad := Compare(api.BinEq, Bin(api.BinDiv, Num(1), Num(0)), Num(1))
	for _, c := range []struct {
		x    api.Expr
		want uint64
	}{
		{Both(no, no), 0}, {Both(no, sure), 0}, {Both(sure, no), 0}, {Both(sure, sure), 1}, {Either(no, no), 0}, {Either(no, sure), 1}, {Either(sure, no), 1}, {Either(sure, sure), 1},
		{Both(no, bad), 0}, {Either(sure, bad), 1}, {Either(Both(no, bad), sure), 1}, {Both(Either(sure, bad), no), 0}, {Either(Both(sure, no), Both(sure, sure)), 1},
	} {
		tells(t, "logic", c.x, c.want, nil)
	}
	for _, x := range []api.Expr{Both(sure, bad), Either(no, bad), Both(bad, no), Either(bad, sure), Both(Either(no, sure), bad)} {
		ends(t, "asked", Yes, x, panics(api.PanicDiv))
	}
}

// TestTypesOfTerms: what is reckoned with a term is of its own kind, whatever row it is of.
func TestTypesOfTerms(t *testing.T) {
	no, sure, big := Con(Yes, 0), Con(Yes, 1), Con(U8, 200)
	twice := func(x api.Expr) api.Expr { return Bin(api.BinAdd, x, big) } // 144, where x is 200 of KindU8
	one := Made(Pair, big, Num(1))
	put := Body(Set(0, big), Set(1, Fresh(ToPair)), Store(Loc(1), one), Set(2, Row(Pairs, Num(1))), Store(Elem(ToPair, Loc(2), Num(0)), one))
	for i, x := range []api.Expr{
		big, Loc(0), Un(api.UnNeg, Con(U8, 56)), Un(api.UnCom, Con(U8, 55)), Bin(api.BinSub, Con(U8, 0), Con(U8, 56)), Bin(api.BinShl, Con(U8, 25), Num(3)), Bin(api.BinShr, big, Num(0)), As(U8, Num(200)), Field(0, one), Field(0, Load(Loc(1))), Load(Addr(ToU8, 0, Loc(1))), Load(Addr(ToU8, 0, Elem(ToPair, Loc(2), Num(0)))), Index(Str("\xc8"), Num(0)),
	} {
		tells(t, "of KindU8: "+strconv.Itoa(i), twice(x), 144, []int{U8, ToPair, Pairs}, put...)
	}
	for i, x := range []api.Expr{
		sure, Both(sure, sure), Either(no, sure), Either(sure, no), Un(api.UnNot, no), Bin(api.BinXor, sure, no), Compare(api.BinLt, Num(1), Num(2)), Compare(api.BinEq, Null(To64), Null(To64)), Compare(api.BinGe, Float(0), Float(Minus0)), Load(Loc(0)),
	} {
		tells(t, "bools: "+strconv.Itoa(i), Un(api.UnNot, Un(api.UnNot, x)), 1, []int{ToYes}, Set(0, Fresh(ToYes)), Store(Loc(0), sure))
	}
	tells(t, "a length", Un(api.UnNeg, Length(Str("abc"))), minus(3), nil)
	tells(t, "a shift's kind is that of Args[0]", Bin(api.BinAdd, Bin(api.BinShl, Con(I8, 1), Con(U64, 6)), Con(I8, 64)), minus(128), nil)
}

// TestConv: ExprConv: word's, from each kind to each.
func TestConv(t *testing.T) {
	for _, c := range []struct {
		from, to int
		x        int64
		want     uint64
	}{
		{I64, I8, 255, minus(1)}, {I64, U8, -1, 255}, {I8, U64, -1, math.MaxUint64}, {U8, I8, 128, minus(128)}, {U32, I64, math.MaxUint32, math.MaxUint32}, {I32, U32, -1, math.MaxUint32}, {U64, I16, 0x18000, minus(0x8000)}, {I16, U16, -2, 65534}, {I64, I64, -5, minus(5)},
		{I64, F64, -3, BitsOf(-3)}, {U64, F64, -1, BitsOf(1 << 64)}, {I64, F64, 1<<53 + 1, BitsOf(1 << 53)}, {I8, F64, -128, BitsOf(-128)},
		{F64, I8, int64(BitsOf(300.7)), 44}, {F64, I64, int64(BitsOf(2.9)), 2}, {F64, I64, -4616639978017495450, 0}, {F64, U64, Nan, 1 << 63}, {F64, I64, Inf, 1 << 63}, {F64, U8, Inf, 0}, {F64, U64, int64(BitsOf(1 << 63)), 1 << 63}, {F64, F64, 0x7ff0000000000001, 0x7ff0000000000001},
	} {
		tells(t, "Conv", As(c.to, Con(c.from, c.x)), c.want, nil)
	}
}

// TestStructs: ExprField, ExprStruct: words of words, in structs of structs, too.
func TestStructs(t *testing.T) {
	x := Made(Mix, Con(Yes, 1), Str("abc"), Made(Pair, Con(U8, 2), Num(-3)), Con(U16, 4), Row(List, Num(2)), Made(None), Con(I8, -5))
	want := words(1, api.DataBase, 3, 2, minus(3), 4, api.DataBase+8, 2, minus(5))
	if w := handed(t, Mix, x, nil); !slices.Equal(w, want) {
		t.Errorf("%d", w)
	}
	for i, c := range []struct {
		n    int64
		k    int
		want []uint64
	}{
		{0, Yes, want[:1]}, {1, Text, want[1:3]}, {2, Pair, want[3:5]}, {3, U16, want[5:6]}, {4, List, want[6:8]}, {5, None, nil}, {6, I8, want[8:]},
	} {
		if w := handed(t, c.k, Field(c.n, x), nil); !slices.Equal(w, c.want) {
			t.Errorf("%d: %d", i, w)
		}
		if w := handed(t, c.k, Field(c.n, Loc(1)), []int{I64, Mix, I64}, Set(1, x)); !slices.Equal(w, c.want) {
			t.Errorf("%d: of a local: %d", i, w)
		}
	}
	tells(t, "a field's field", Field(1, Field(2, x)), minus(3), nil)
	var l []api.Expr
	for i := range api.MaxWords {
		l = append(l, Num(int64(i*i)))
	}
	for i := range api.MaxWords {
		tells(t, "one of many", Field(int64(i), Made(Full, l...)), uint64(i*i), nil)
	}
}

// TestLeftToRight: Args are worked out from left to right, all of them ahead of what the row asks.
func TestLeftToRight(t *testing.T) {
	zero := Bin(api.BinDiv, Num(1), Num(0))
	left := Bin(api.BinShl, Num(1), Num(-1))
	empty := Load(Null(To64))
	many := Row(List, Num(3))
	for _, c := range []struct {
		name string
		k    int
		x    api.Expr
		want int64
	}{
		{"BinAdd", I64, Bin(api.BinAdd, zero, left), api.PanicDiv}, {"BinAdd", I64, Bin(api.BinAdd, left, zero), api.PanicShift}, {"BinDiv", I64, Bin(api.BinDiv, empty, zero), api.PanicNil}, {"BinShl", I64, Bin(api.BinShl, zero, Num(-1)), api.PanicDiv}, {"BinShl", I64, Bin(api.BinShl, left, Bin(api.BinDiv, Num(-1), Num(0))), api.PanicShift}, {"BinEq", Yes, Compare(api.BinEq, left, empty), api.PanicShift},
		{"ExprStruct", Pair, Made(Pair, As(U8, left), zero), api.PanicShift}, {"ExprStruct", Pair, Made(Pair, As(U8, zero), left), api.PanicDiv},
		{"ExprElem", To64, Elem(To64, Row(List, Num(-1)), zero), api.PanicMake}, {"ExprElem", To64, Elem(To64, Null(List), zero), api.PanicDiv}, {"ExprElem of an array", To64, Elem(To64, Null(ToArr), zero), api.PanicDiv}, {"ExprElem of an array", To64, Elem(To64, Null(ToArr), Num(7)), api.PanicNil}, {"ExprIndex", U8, Index(Str("abc"), zero), api.PanicDiv}, {"ExprIndex", U8, Index(Slice(Str("abc"), Num(2), Num(1)), zero), api.PanicSlice},
		{"ExprSlice", List, Slice(Row(List, Num(-1)), zero, left), api.PanicMake}, {"ExprSlice", List, Slice(many, zero, left), api.PanicDiv}, {"ExprSlice", List, Slice(many, left, zero), api.PanicShift}, {"ExprSlice", List, Slice(many, Num(-1), zero), api.PanicDiv},
		{"ExprLoad", I64, Load(Load(Null(ToTo))), api.PanicNil}, {"ExprMake", List, Row(List, zero), api.PanicDiv},
	} {
		ends(t, c.name, c.k, c.x, panics(c.want))
	}
	ends(t, "the heap ahead of an index", To64, Elem(To64, Row(List, Num(api.MaxMemory/8)), zero), resource())
	ends(t, "an index ahead of the heap", I64, Bin(api.BinAdd, Load(Elem(To64, many, Num(3))), Length(Row(List, Num(api.MaxMemory/8)))), panics(api.PanicIndex))
}
