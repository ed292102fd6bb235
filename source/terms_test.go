package source_test

import (
	"math"
	"slices"
	"strconv"
	"testing"

	"gantry/api"
	"gantry/source"
)

// Words of floats.
const (
	inf      = 0x7ff0000000000000
	minusInf = 0xfff0000000000000
	nan      = 0x7ff8000000000000
	otherNaN = 0xfff0000000000001
	minus0   = 1 << 63
)

func bitsOf(x float64) uint64 { return math.Float64bits(x) }

// float is a constant with these bits.
func float(x uint64) api.Expr { return con(f64, int64(x)) }

// wholes are the types of whole numbers, the signed ones first.
func wholes() []int { return []int{i8, i16, i32, i64, u8, u16, u32, u64} }

// least and greatest tell the edges of a type of whole numbers, as constants have them.
func least(t int) int64 {
	return map[int]int64{i8: math.MinInt8, i16: math.MinInt16, i32: math.MinInt32, i64: math.MinInt64}[t]
}

func greatest(t int) int64 {
	return map[int]int64{i8: math.MaxInt8, i16: math.MaxInt16, i32: math.MaxInt32, i64: math.MaxInt64, u8: math.MaxUint8, u16: math.MaxUint16, u32: math.MaxUint32, u64: -1}[t]
}

func isSigned(t int) bool { return least(t) < 0 }

// TestConst: ExprConst: N's word, at the edges of each kind.
func TestConst(t *testing.T) {
	for _, k := range wholes() {
		for _, n := range []int64{0, 1, least(k), greatest(k)} {
			tells(t, "a constant", con(k, n), uint64(n), nil)
		}
	}
	for _, x := range []uint64{0, minus0, inf, minusInf, nan, otherNaN, bitsOf(1.5)} {
		tells(t, "a float", float(x), x, nil)
	}
	tells(t, "no", con(yes, 0), 0, nil)
	tells(t, "yes", con(yes, 1), 1, nil)
}

// TestNil: ExprNil: a word that is 0, two of a slice.
func TestNil(t *testing.T) {
	for k, want := range map[int]int{to64: 1, toMix: 1, self: 1, toWide: 1, list: 2, nones: 2, wides: 2} {
		if w := handed(t, k, null(k), nil); !slices.Equal(w, make([]uint64, want)) {
			t.Errorf("%d: %d", k, w)
		}
	}
	tells(t, "no elements", length(null(list)), 0, nil)
	tells(t, "nil is nil", compare(api.BinEq, null(to64), null(to64)), 1, nil)
}

// TestTexts: ExprStr: where the i-th text begins, and its length: functions in order, a statement's Args, then A, then B.
func TestTexts(t *testing.T) {
	say := func(s string) api.Stmt { return call(2, nil, str(s)) }
	twice := body(say("twice"))
	p := program(
		function(0, nil, []int{i64},
			when(compare(api.BinLt, length(str("first")), length(str(""))), body(say("never")), body(say("else"), say(""))),
			when(con(yes, 1), twice, twice), say("x"), call(1, nil), say("last"), ret(num(0))),
		function(0, nil, nil, call(3, nil, str("left"), made(mix, con(yes, 1), str("in"), made(pair, con(u8, 1), num(1)), con(u16, 1), null(list), made(none), con(i8, 1)), str("right")), when(con(yes, 0), nil, twice), say("end"), ret()),
		function(1, []int{text}, nil, ret()),
		function(3, []int{text, mix, text}, nil, ret()))
	r, e := source.Run(p, nil, 100)
	if e != api.OK || r.End != api.EndExit {
		t.Fatalf("%+v, %d", r, e)
	}
	// The texts: first, "", never, else, "", twice, twice, x, last; left, in, right, twice, end.
	at := func(n, size uint64) []uint64 { return words(api.DataBase+n, size) }
	want := [][]uint64{nil, at(10, 4), at(14, 0), at(14, 5), at(24, 1), nil,
		{api.DataBase + 29, 4, 1, api.DataBase + 33, 2, 1, 1, 1, 0, 0, 1, api.DataBase + 35, 5}, at(40, 5), at(45, 3), at(25, 4)}
	for i, c := range r.Calls {
		if i >= len(want) || !slices.Equal(c.Args, want[i]) {
			t.Errorf("call %d: %d", i, c.Args)
		}
	}
	if len(r.Calls) != len(want) {
		t.Errorf("%d calls", len(r.Calls))
	}
}

// TestTextsOfChoices: the texts of a statement's Args stand ahead of those of its A, and these ahead of its B's.
func TestTextsOfChoices(t *testing.T) {
	is := func(s string) api.Expr { return compare(api.BinEq, index(str(s), num(1)), con(u8, int64(s[1]))) }
	say := func(s string) []api.Stmt {
		var l []api.Stmt
		for i := range s {
			l = append(l, emit(index(str(s), num(int64(i)))))
		}
		return l
	}
	p := alone(nil, when(is("xy"), say("abc"), say("defg")), when(un(api.UnNot, is("uvw")), say("hi"), say("jkl")), ret(num(0)))
	runs(t, "choices", p, nil, 100, exits(0, 'a', 'b', 'c', 'j', 'k', 'l'))
}

// TestTextBytes: a text's bytes stand where it begins, each of its own place.
func TestTextBytes(t *testing.T) {
	all := make([]byte, 256)
	for i := range all {
		all[i] = byte(i)
	}
	for i := range 256 {
		tells(t, "a byte", index(str(string(all)), num(int64(i))), uint64(i), nil, emit0(str("ahead"))...)
	}
}

// emit0 is statements that tell nothing, and have these terms in them.
func emit0(l ...api.Expr) []api.Stmt {
	var a []api.Stmt
	for _, x := range l {
		a = append(a, emit(length(x)))
	}
	return body(when(con(yes, 0), a, nil))
}

// TestLocals: ExprLocal: 0 at first, of all words; what was set, of that local alone.
func TestLocals(t *testing.T) {
	for _, k := range []int{i64, yes, f64, text, list, mix, full, none, to64} {
		for _, w := range handed(t, k, loc(1), []int{u8, k, u8}, set(0, con(u8, 7)), set(2, con(u8, 9))) {
			if w != 0 {
				t.Errorf("%d: %d", k, w)
			}
		}
	}
	put := body(set(1, made(pair, con(u8, 5), num(-6))), set(0, con(u8, 7)), set(2, con(u8, 9)))
	if w := handed(t, pair, loc(1), []int{u8, pair, u8}, put...); !slices.Equal(w, words(5, minus(6))) {
		t.Errorf("%d", w)
	}
	tells(t, "ahead", loc(0), 7, []int{u8, pair, u8}, put...)
	tells(t, "behind", loc(2), 9, []int{u8, pair, u8}, put...)
}

// TestUnary: ExprUn: word's, of each kind.
func TestUnary(t *testing.T) {
	for _, k := range wholes() {
		low := uint64(greatest(k)) // of an unsigned kind 0 less 1 is the greatest, too
		if isSigned(k) {
			low = minus(1)
		}
		tells(t, "less one", un(api.UnNeg, con(k, 1)), low, nil)
		tells(t, "less none", un(api.UnNeg, con(k, 0)), 0, nil)
		tells(t, "less the least", un(api.UnNeg, con(k, least(k))), uint64(least(k)), nil)
		tells(t, "all bits", un(api.UnCom, con(k, 0)), low, nil)
		tells(t, "all bits but one", un(api.UnCom, con(k, 1)), low-1, nil)
	}
	tells(t, "not no", un(api.UnNot, con(yes, 0)), 1, nil)
	tells(t, "not yes", un(api.UnNot, con(yes, 1)), 0, nil)
	tells(t, "less nought", un(api.UnNeg, float(0)), minus0, nil)
	tells(t, "less a NaN", un(api.UnNeg, float(nan)), nan|minus0, nil)
	tells(t, "less an infinity", un(api.UnNeg, float(minusInf)), inf, nil)
}

// TestBinary: ExprBin: word's, of each operation, each kind.
func TestBinary(t *testing.T) {
	for _, c := range []struct {
		k    int
		x, y int64
		want []int64 // of BinAdd to BinXor, BinEq to BinGe
	}{
		{i64, 7, -2, []int64{5, 9, -14, -3, 1, 6, -1, -7, 0, 1, 0, 0, 1, 1}},
		{i64, math.MaxInt64, 2, []int64{math.MinInt64 + 1, math.MaxInt64 - 2, -2, math.MaxInt64 / 2, 1, 2, math.MaxInt64, math.MaxInt64 - 2, 0, 1, 0, 0, 1, 1}},
		{i64, math.MinInt64, -1, []int64{math.MaxInt64, math.MinInt64 + 1, math.MinInt64, math.MinInt64, 0, math.MinInt64, -1, math.MaxInt64, 0, 1, 1, 1, 0, 0}},
		{i32, math.MinInt32, -1, []int64{math.MaxInt32, math.MinInt32 + 1, math.MinInt32, math.MinInt32, 0, math.MinInt32, -1, math.MaxInt32, 0, 1, 1, 1, 0, 0}},
		{i16, math.MinInt16, -1, []int64{math.MaxInt16, math.MinInt16 + 1, math.MinInt16, math.MinInt16, 0, math.MinInt16, -1, math.MaxInt16, 0, 1, 1, 1, 0, 0}},
		{i8, math.MinInt8, -1, []int64{math.MaxInt8, math.MinInt8 + 1, math.MinInt8, math.MinInt8, 0, math.MinInt8, -1, math.MaxInt8, 0, 1, 1, 1, 0, 0}},
		{i8, 100, 100, []int64{-56, 0, 16, 1, 0, 100, 100, 0, 1, 0, 0, 1, 0, 1}},
		{u8, 200, 100, []int64{44, 100, 32, 2, 0, 64, 236, 172, 0, 1, 0, 0, 1, 1}},
		{u16, 1, 65535, []int64{0, 2, 65535, 0, 1, 1, 65535, 65534, 0, 1, 1, 1, 0, 0}},
		{u32, 1, 1<<32 - 1, []int64{0, 2, 1<<32 - 1, 0, 1, 1, 1<<32 - 1, 1<<32 - 2, 0, 1, 1, 1, 0, 0}},
		{u64, -1, 2, []int64{1, -3, -2, math.MaxInt64, 1, 2, -1, -3, 0, 1, 0, 0, 1, 1}},
	} {
		for i, want := range c.want {
			op, tell := int64(api.BinAdd+i), bin
			if i >= 8 {
				op, tell = int64(api.BinEq+i-8), compare
			}
			tells(t, "operation "+strconv.FormatInt(op, 10), tell(op, con(c.k, c.x), con(c.k, c.y)), uint64(want), nil)
		}
	}
	for i, want := range []uint64{0, 1, 1} { // of no, yes
		tells(t, "bools", bin(int64(api.BinAnd+i), con(yes, 0), con(yes, 1)), want, nil)
	}
	tells(t, "equal bools", compare(api.BinEq, con(yes, 1), con(yes, 1)), 1, nil)
	tells(t, "other bools", compare(api.BinNe, con(yes, 1), con(yes, 1)), 0, nil)
}

// TestFloats: ExprBin of KindF64: signed noughts, NaNs, infinities, the rounding.
func TestFloats(t *testing.T) {
	one, two, half := bitsOf(1), bitsOf(2), bitsOf(0.5)
	for _, c := range []struct {
		op         int64
		x, y, want uint64
	}{
		{api.BinAdd, one, half, bitsOf(1.5)}, {api.BinAdd, bitsOf(0.1), bitsOf(0.2), 0x3fd3333333333334}, {api.BinAdd, inf, minusInf, nan}, {api.BinAdd, otherNaN, one, nan}, {api.BinAdd, minus0, 0, 0}, {api.BinAdd, minus0, minus0, minus0}, {api.BinAdd, bitsOf(1 << 53), one, bitsOf(1 << 53)},
		{api.BinSub, one, two, bitsOf(-1)}, {api.BinSub, inf, inf, nan}, {api.BinSub, 0, 0, 0}, {api.BinSub, minus0, 0, minus0},
		{api.BinMul, two, half, one}, {api.BinMul, inf, 0, nan}, {api.BinMul, bitsOf(-1), 0, minus0}, {api.BinMul, bitsOf(math.MaxFloat64), two, inf}, {api.BinMul, 1, half, 0},
		{api.BinDiv, one, two, half}, {api.BinDiv, one, 0, inf}, {api.BinDiv, one, minus0, minusInf}, {api.BinDiv, 0, 0, nan}, {api.BinDiv, inf, inf, nan}, {api.BinDiv, one, bitsOf(3), 0x3fd5555555555555},
	} {
		tells(t, "floats", bin(c.op, float(c.x), float(c.y)), c.want, nil)
	}
	for _, c := range []struct {
		x, y uint64
		want [6]uint64 // BinEq, BinNe, BinLt, BinLe, BinGt, BinGe
	}{
		{0, minus0, [6]uint64{1, 0, 0, 1, 0, 1}}, {one, two, [6]uint64{0, 1, 1, 1, 0, 0}}, {nan, nan, [6]uint64{0, 1, 0, 0, 0, 0}}, {one, otherNaN, [6]uint64{0, 1, 0, 0, 0, 0}}, {inf, minusInf, [6]uint64{0, 1, 0, 0, 1, 1}}, {bitsOf(-2), bitsOf(-1), [6]uint64{0, 1, 1, 1, 0, 0}},
	} {
		for i, want := range c.want {
			tells(t, "floats held against each other", compare(int64(api.BinEq+i), float(c.x), float(c.y)), want, nil)
		}
	}
}

// TestDivision: PanicDiv by 0 of whole numbers alone.
func TestDivision(t *testing.T) {
	for _, k := range wholes() {
		for _, op := range []int64{api.BinDiv, api.BinRem} {
			ends(t, "by 0", k, bin(op, con(k, 7), con(k, 0)), panics(api.PanicDiv))
			ends(t, "0 by 0", k, bin(op, con(k, 0), con(k, 0)), panics(api.PanicDiv))
			tells(t, "0 by 1", bin(op, con(k, 0), con(k, 1)), 0, nil)
		}
	}
	tells(t, "-7 by 2", bin(api.BinDiv, num(-7), num(2)), minus(3), nil)
	tells(t, "left of -7", bin(api.BinRem, num(-7), num(2)), minus(1), nil)
}

// TestShifts: BinShl, BinShr by words of all kinds: by 0, by all bits, by more; PanicShift below 0.
func TestShifts(t *testing.T) {
	for _, k := range wholes() {
		width := map[int]int64{i8: 8, u8: 8, i16: 16, u16: 16, i32: 32, u32: 32, i64: 64, u64: 64}[k]
		all := uint64(0)
		if isSigned(k) {
			all = minus(1)
		}
		for _, by := range wholes() {
			tells(t, "left by 0", bin(api.BinShl, con(k, 5), con(by, 0)), 5, nil)
			tells(t, "left by 1", bin(api.BinShl, con(k, 5), con(by, 1)), 10, nil)
			tells(t, "right by 0", bin(api.BinShr, con(k, least(k)), con(by, 0)), uint64(least(k)), nil)
			tells(t, "right by 2", bin(api.BinShr, con(k, 100), con(by, 2)), 25, nil)
			for _, far := range []int64{width, width + 1, 100, greatest(by)} {
				tells(t, "left by all", bin(api.BinShl, con(k, 5), con(by, far)), 0, nil)
				tells(t, "right by all", bin(api.BinShr, con(k, greatest(k)), con(by, far)), 0, nil)
				tells(t, "right by all, below 0", bin(api.BinShr, con(k, least(k)), con(by, far)), all, nil)
			}
			if !isSigned(by) {
				continue
			}
			for _, op := range []int64{api.BinShl, api.BinShr} {
				ends(t, "by -1", k, bin(op, con(k, 5), con(by, -1)), panics(api.PanicShift))
				ends(t, "by the least", k, bin(op, con(k, 0), con(by, least(by))), panics(api.PanicShift))
			}
		}
		tells(t, "left by all but one", bin(api.BinShl, con(k, 1), num(width-1)), top(k), nil)
	}
}

// top is the word whose highest bit alone is 1.
func top(t int) uint64 {
	if isSigned(t) {
		return uint64(least(t))
	}
	return uint64(greatest(t)) - uint64(greatest(t))>>1
}

// TestLogic: ExprAnd, ExprOr: Args[1] is asked only if it must be.
func TestLogic(t *testing.T) {
	no, sure := con(yes, 0), con(yes, 1)
	bad := compare(api.BinEq, bin(api.BinDiv, num(1), num(0)), num(1))
	for _, c := range []struct {
		x    api.Expr
		want uint64
	}{
		{both(no, no), 0}, {both(no, sure), 0}, {both(sure, no), 0}, {both(sure, sure), 1}, {either(no, no), 0}, {either(no, sure), 1}, {either(sure, no), 1}, {either(sure, sure), 1},
		{both(no, bad), 0}, {either(sure, bad), 1}, {either(both(no, bad), sure), 1}, {both(either(sure, bad), no), 0}, {either(both(sure, no), both(sure, sure)), 1},
	} {
		tells(t, "logic", c.x, c.want, nil)
	}
	for _, x := range []api.Expr{both(sure, bad), either(no, bad), both(bad, no), either(bad, sure), both(either(no, sure), bad)} {
		ends(t, "asked", yes, x, panics(api.PanicDiv))
	}
}

// TestTypesOfTerms: what is reckoned with a term is of its own kind, whatever row it is of.
func TestTypesOfTerms(t *testing.T) {
	no, sure, big := con(yes, 0), con(yes, 1), con(u8, 200)
	twice := func(x api.Expr) api.Expr { return bin(api.BinAdd, x, big) } // 144, where x is 200 of KindU8
	one := made(pair, big, num(1))
	put := body(set(0, big), set(1, fresh(toPair)), store(loc(1), one), set(2, row(pairs, num(1))), store(elem(toPair, loc(2), num(0)), one))
	for i, x := range []api.Expr{
		big, loc(0), un(api.UnNeg, con(u8, 56)), un(api.UnCom, con(u8, 55)), bin(api.BinSub, con(u8, 0), con(u8, 56)), bin(api.BinShl, con(u8, 25), num(3)), bin(api.BinShr, big, num(0)), as(u8, num(200)), field(0, one), field(0, load(loc(1))), load(addr(toU8, 0, loc(1))), load(addr(toU8, 0, elem(toPair, loc(2), num(0)))), index(str("\xc8"), num(0)),
	} {
		tells(t, "of KindU8: "+strconv.Itoa(i), twice(x), 144, []int{u8, toPair, pairs}, put...)
	}
	for i, x := range []api.Expr{
		sure, both(sure, sure), either(no, sure), either(sure, no), un(api.UnNot, no), bin(api.BinXor, sure, no), compare(api.BinLt, num(1), num(2)), compare(api.BinEq, null(to64), null(to64)), compare(api.BinGe, float(0), float(minus0)), load(loc(0)),
	} {
		tells(t, "bools: "+strconv.Itoa(i), un(api.UnNot, un(api.UnNot, x)), 1, []int{toYes}, set(0, fresh(toYes)), store(loc(0), sure))
	}
	tells(t, "a length", un(api.UnNeg, length(str("abc"))), minus(3), nil)
	tells(t, "a shift's kind is that of Args[0]", bin(api.BinAdd, bin(api.BinShl, con(i8, 1), con(u64, 6)), con(i8, 64)), minus(128), nil)
}

// TestConv: ExprConv: word's, from each kind to each.
func TestConv(t *testing.T) {
	for _, c := range []struct {
		from, to int
		x        int64
		want     uint64
	}{
		{i64, i8, 255, minus(1)}, {i64, u8, -1, 255}, {i8, u64, -1, math.MaxUint64}, {u8, i8, 128, minus(128)}, {u32, i64, math.MaxUint32, math.MaxUint32}, {i32, u32, -1, math.MaxUint32}, {u64, i16, 0x18000, minus(0x8000)}, {i16, u16, -2, 65534}, {i64, i64, -5, minus(5)},
		{i64, f64, -3, bitsOf(-3)}, {u64, f64, -1, bitsOf(1 << 64)}, {i64, f64, 1<<53 + 1, bitsOf(1 << 53)}, {i8, f64, -128, bitsOf(-128)},
		{f64, i8, int64(bitsOf(300.7)), 44}, {f64, i64, int64(bitsOf(2.9)), 2}, {f64, i64, -4616639978017495450, 0}, {f64, u64, nan, 1 << 63}, {f64, i64, inf, 1 << 63}, {f64, u8, inf, 0}, {f64, u64, int64(bitsOf(1 << 63)), 1 << 63}, {f64, f64, 0x7ff0000000000001, 0x7ff0000000000001},
	} {
		tells(t, "Conv", as(c.to, con(c.from, c.x)), c.want, nil)
	}
}

// TestStructs: ExprField, ExprStruct: words of words, in structs of structs, too.
func TestStructs(t *testing.T) {
	x := made(mix, con(yes, 1), str("abc"), made(pair, con(u8, 2), num(-3)), con(u16, 4), row(list, num(2)), made(none), con(i8, -5))
	want := words(1, api.DataBase, 3, 2, minus(3), 4, api.DataBase+8, 2, minus(5))
	if w := handed(t, mix, x, nil); !slices.Equal(w, want) {
		t.Errorf("%d", w)
	}
	for i, c := range []struct {
		n    int64
		k    int
		want []uint64
	}{
		{0, yes, want[:1]}, {1, text, want[1:3]}, {2, pair, want[3:5]}, {3, u16, want[5:6]}, {4, list, want[6:8]}, {5, none, nil}, {6, i8, want[8:]},
	} {
		if w := handed(t, c.k, field(c.n, x), nil); !slices.Equal(w, c.want) {
			t.Errorf("%d: %d", i, w)
		}
		if w := handed(t, c.k, field(c.n, loc(1)), []int{i64, mix, i64}, set(1, x)); !slices.Equal(w, c.want) {
			t.Errorf("%d: of a local: %d", i, w)
		}
	}
	tells(t, "a field's field", field(1, field(2, x)), minus(3), nil)
	var l []api.Expr
	for i := range api.MaxWords {
		l = append(l, num(int64(i*i)))
	}
	for i := range api.MaxWords {
		tells(t, "one of many", field(int64(i), made(full, l...)), uint64(i*i), nil)
	}
}

// TestLeftToRight: Args are worked out from left to right, all of them ahead of what the row asks.
func TestLeftToRight(t *testing.T) {
	zero := bin(api.BinDiv, num(1), num(0))
	left := bin(api.BinShl, num(1), num(-1))
	empty := load(null(to64))
	many := row(list, num(3))
	for _, c := range []struct {
		name string
		k    int
		x    api.Expr
		want int64
	}{
		{"BinAdd", i64, bin(api.BinAdd, zero, left), api.PanicDiv}, {"BinAdd", i64, bin(api.BinAdd, left, zero), api.PanicShift}, {"BinDiv", i64, bin(api.BinDiv, empty, zero), api.PanicNil}, {"BinShl", i64, bin(api.BinShl, zero, num(-1)), api.PanicDiv}, {"BinShl", i64, bin(api.BinShl, left, bin(api.BinDiv, num(-1), num(0))), api.PanicShift}, {"BinEq", yes, compare(api.BinEq, left, empty), api.PanicShift},
		{"ExprStruct", pair, made(pair, as(u8, left), zero), api.PanicShift}, {"ExprStruct", pair, made(pair, as(u8, zero), left), api.PanicDiv},
		{"ExprElem", to64, elem(to64, row(list, num(-1)), zero), api.PanicMake}, {"ExprElem", to64, elem(to64, null(list), zero), api.PanicDiv}, {"ExprElem of an array", to64, elem(to64, null(toArr), zero), api.PanicDiv}, {"ExprElem of an array", to64, elem(to64, null(toArr), num(7)), api.PanicNil}, {"ExprIndex", u8, index(str("abc"), zero), api.PanicDiv}, {"ExprIndex", u8, index(slice(str("abc"), num(2), num(1)), zero), api.PanicSlice},
		{"ExprSlice", list, slice(row(list, num(-1)), zero, left), api.PanicMake}, {"ExprSlice", list, slice(many, zero, left), api.PanicDiv}, {"ExprSlice", list, slice(many, left, zero), api.PanicShift}, {"ExprSlice", list, slice(many, num(-1), zero), api.PanicDiv},
		{"ExprLoad", i64, load(load(null(toTo))), api.PanicNil}, {"ExprMake", list, row(list, zero), api.PanicDiv},
	} {
		ends(t, c.name, c.k, c.x, panics(c.want))
	}
	ends(t, "the heap ahead of an index", to64, elem(to64, row(list, num(api.MaxMemory/8)), zero), resource())
	ends(t, "an index ahead of the heap", i64, bin(api.BinAdd, load(elem(to64, many, num(3))), length(row(list, num(api.MaxMemory/8)))), panics(api.PanicIndex))
}
