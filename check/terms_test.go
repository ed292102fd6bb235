package check

import (
	"math"
	"testing"

	"gantry/api"
)

// What the types here are, by their numbers.

func isPointer(k int) bool { return k >= to64 && k <= toSelf || k >= toList && k <= toPtr }

func isSlice(k int) bool { return k >= list && k <= listArr }

func isString(k int) bool { return k == text || k == text2 }

func isBit(k int) bool { return k == yes || k == yes2 }

func isWhole(k int) bool { return k <= u64 && !isBit(k) }

func isNumber(k int) bool { return k <= f642 && !isBit(k) }

func isNoValue(k int) bool { return k == arr || k == holds || k == over }

// is holds a term against its type: by TypeOf, and by where a program takes it.
func is(t *testing.T, name string, x api.Expr, want int) {
	t.Helper()
	p := around()
	if told, e := TypeOf(p, 1, x); told != want || e != api.OK {
		t.Errorf("%s: TypeOf: %d, %d, not %d", name, told, e, want)
	}
	for result := range manyType {
		if isNoValue(result) {
			continue
		}
		p.Funcs[1].Results, p.Funcs[1].Body = []int{result}, body(ret(x))
		wantErr := api.ErrCheckType
		if result == want {
			wantErr = api.OK
		}
		if e := Check(p); e != wantErr {
			t.Errorf("%s: Check of a result %d: %d, not %d", name, result, e, wantErr)
		}
	}
}

// isNone holds a term against its error: alone, in another one that would be wrong, too, and in a program.
func isNone(t *testing.T, name string, x api.Expr, want api.Errno) {
	t.Helper()
	p := around(emit(x))
	for _, within := range []api.Expr{x, un(api.UnNot, x), bin(api.BinAdd, x, loc(99)), bin(api.BinShl, of(text), x), term(api.ExprStruct, i64, 0, num(1), x)} {
		if told, e := TypeOf(around(), 1, within); told != 0 || e != want {
			t.Errorf("%s: TypeOf of %+v: %d, %d, not %d", name, within, told, e, want)
		}
	}
	if x.T < 0 || x.Op < 0 {
		want = api.ErrRawForm
	}
	answers(t, name, p, want)
}

// TestConst: P9.1: the least and the greatest word of each kind, and those beside them.
func TestConst(t *testing.T) {
	for _, c := range []struct {
		t           int
		least, most int64
	}{
		{yes, 0, 1}, {yes2, 0, 1}, {i8, -128, 127}, {i16, -1 << 15, 1<<15 - 1}, {i32, math.MinInt32, math.MaxInt32}, {u8, 0, 255}, {u82, 0, 255}, {u16, 0, 1<<16 - 1}, {u32, 0, 1<<32 - 1},
	} {
		is(t, "the least", con(c.t, c.least), c.t)
		is(t, "the greatest", con(c.t, c.most), c.t)
		for _, n := range []int64{c.least - 1, c.most + 1, math.MinInt64, math.MaxInt64} {
			isNone(t, "none", con(c.t, n), api.ErrCheckConst)
		}
	}
	for _, k := range []int{i64, num2, u64, f64, f642} {
		for _, n := range []int64{0, -1, 1, math.MinInt64, math.MaxInt64, 0x7ff8000000000001} {
			is(t, "any", con(k, n), k)
		}
	}
	for _, k := range []int{text, pair, none, arr, holds, full, to64, toSelf, list, manyType, -1, math.MaxInt32} {
		isNone(t, "no scalar", con(k, 0), api.ErrCheckType)
		isNone(t, "no scalar, no word", con(k, -1), api.ErrCheckType)
	}
}

// TestLeaves: P9.1: terms without Args.
func TestLeaves(t *testing.T) {
	is(t, "a text", str("abc"), text)
	is(t, "no text", api.Expr{Op: api.ExprStr, T: text2}, text2)
	for k := range manyType + 1 {
		nil0, new0, str0 := term(api.ExprNil, k, 0), term(api.ExprNew, k, 0), api.Expr{Op: api.ExprStr, T: k, S: "a"}
		if isPointer(k) || isSlice(k) {
			is(t, "nil", nil0, k)
		} else {
			isNone(t, "no nil", nil0, api.ErrCheckType)
		}
		if isPointer(k) {
			is(t, "new", new0, k)
		} else {
			isNone(t, "nothing new", new0, api.ErrCheckType)
		}
		if !isString(k) {
			isNone(t, "no string", str0, api.ErrCheckType)
		}
	}
	for n, k := range localsHere() {
		is(t, "a local", loc(int64(n)), k)
	}
	for _, n := range []int64{-1, int64(len(localsHere())), math.MaxInt64, math.MinInt64, 1 << 32} {
		isNone(t, "no local", loc(n), api.ErrCheckLocal)
	}
}

// TestWord: P9.1: each operation of each kind: what word has, and nothing else.
func TestWord(t *testing.T) {
	for _, k := range localsHere() {
		x, other := of(k), of(num2)
		if k == num2 {
			other = of(i64)
		}
		told := func(name string, x api.Expr, has bool, want int, no api.Errno) {
			t.Helper()
			if has {
				is(t, name, x, want)
			} else {
				isNone(t, name, x, no)
			}
		}
		for op, has := range map[int64]bool{api.UnNeg: isNumber(k), api.UnNot: isBit(k), api.UnCom: isWhole(k)} {
			told("a unary one", un(op, x), has, k, api.ErrCheckOp)
		}
		for op := int64(api.BinAdd); op <= api.BinXor; op++ {
			has := isWhole(k) || isNumber(k) && op <= api.BinDiv || isBit(k) && op >= api.BinAnd
			told("a binary one", bin(op, x, x), has, k, api.ErrCheckOp)
			isNone(t, "of two types", bin(op, x, other), api.ErrCheckType)
			isNone(t, "of two types", bin(op, other, x), api.ErrCheckType)
		}
		for op := int64(api.BinEq); op <= api.BinGe; op++ {
			has := isNumber(k) || (isBit(k) || isPointer(k)) && op <= api.BinNe
			told("a comparison", compare(op, x, x), has, yes, api.ErrCheckOp)
			told("another bool", term(api.ExprBin, yes2, op, x, x), has, yes2, api.ErrCheckOp)
			isNone(t, "no bool", term(api.ExprBin, i64, op, x, x), api.ErrCheckType)
			isNone(t, "of two types", compare(op, x, other), api.ErrCheckType)
		}
		for _, op := range []int64{api.BinShl, api.BinShr} {
			told("a shift", bin(op, x, of(u8)), isWhole(k), k, api.ErrCheckType)
			told("a shift by it", bin(op, of(i32), x), isWhole(k), i32, api.ErrCheckType)
		}
		for _, op := range []int{api.ExprAnd, api.ExprOr} {
			told("both", term(op, 0, 0, x, x), isBit(k), k, api.ErrCheckType)
			told("both", term(op, 0, 0, x, of(yes)), k == yes, k, api.ErrCheckType)
			told("both", term(op, 0, 0, of(yes), x), k == yes, k, api.ErrCheckType)
		}
		for to := range manyType {
			told("as another", term(api.ExprConv, to, 0, x), isNumber(k) && isNumber(to), to, api.ErrCheckType)
		}
	}
}

// TestParts: P9.1: structs and their fields, pointers and what is behind them.
func TestParts(t *testing.T) {
	field := func(n int64, x api.Expr) api.Expr { return term(api.ExprField, 0, n, x) }
	addr := func(k int, n int64, x api.Expr) api.Expr { return term(api.ExprAddr, k, n, x) }
	load := func(x api.Expr) api.Expr { return term(api.ExprLoad, 0, 0, x) }
	made := func(k int, l ...api.Expr) api.Expr { return term(api.ExprStruct, k, 0, l...) }
	is(t, "a field", field(0, of(pair)), i64)
	is(t, "a field", field(1, of(pair)), u8)
	is(t, "the last one", field(api.MaxWords-1, of(full)), i64)
	is(t, "a struct", made(pair, num(1), of(u8)), pair)
	is(t, "of nothing", made(none), none)
	is(t, "what it points to", load(of(toPair)), pair)
	is(t, "itself", load(load(load(of(toSelf)))), toSelf)
	is(t, "a field's address", addr(to64, 0, of(toPair)), to64)
	is(t, "a field's address", addr(toU8, 1, of(toPair2)), toU8)
	is(t, "of no value's type", addr(toArr, 1, of(toHolds)), toArr)
	is(t, "of no value's type", addr(to64, 0, of(toHolds)), to64)
	for _, n := range []int64{-1, 2, 1 << 32, math.MaxInt64, math.MinInt64} {
		isNone(t, "no field", field(n, of(pair)), api.ErrCheckField)
		isNone(t, "no field", addr(to64, n, of(toPair)), api.ErrCheckField)
		isNone(t, "no field, no pointer", addr(i64, n, of(toPair)), api.ErrCheckField)
		isNone(t, "no struct, no field", field(n, of(toPair)), api.ErrCheckType)
		isNone(t, "no struct, no field", addr(to64, n, of(toText)), api.ErrCheckType)
	}
	isNone(t, "of nothing", field(0, of(none)), api.ErrCheckField)
	isNone(t, "of nothing", addr(to64, 0, of(toNone)), api.ErrCheckField)
	for _, k := range localsHere() {
		if k != pair && k != full && k != none {
			isNone(t, "no struct", field(0, of(k)), api.ErrCheckType)
		}
		if k != toPair && k != toPair2 && k != toHolds && k != toOver && k != toNone {
			isNone(t, "no pointer to a struct", addr(to64, 0, of(k)), api.ErrCheckType)
		}
		if !isPointer(k) {
			isNone(t, "no pointer", load(of(k)), api.ErrCheckType)
		}
	}
	for _, k := range []int{toArr, toHolds, toOver} {
		isNone(t, "to no value's type", load(of(k)), api.ErrCheckType)
	}
	for _, k := range []int{i64, toU82, to64, toPair, list, text} {
		isNone(t, "not to the field", addr(k, 1, of(toPair)), api.ErrCheckType)
	}
	isNone(t, "too few", made(pair, num(1)), api.ErrCheckCount)
	isNone(t, "too many", made(pair, num(1), of(u8), of(u8)), api.ErrCheckCount)
	isNone(t, "too many", made(none, num(1)), api.ErrCheckCount)
	isNone(t, "another type", made(pair, num(1), of(u82)), api.ErrCheckType)
	isNone(t, "another type", made(pair, of(num2), of(u8)), api.ErrCheckType)
	isNone(t, "turned round", made(pair, of(u8), num(1)), api.ErrCheckType)
	isNone(t, "no value's type", made(over, of(full), of(u8)), api.ErrCheckType)
	isNone(t, "no value's type, too few", made(holds, num(1)), api.ErrCheckType)
	isNone(t, "no struct", made(text), api.ErrCheckType)
	isNone(t, "no entry", made(manyType), api.ErrCheckType)
}

// TestLists: P9.1: elements, bytes, lengths, slices of slices, arrays, strings.
func TestLists(t *testing.T) {
	elem := func(k int, x, y api.Expr) api.Expr { return term(api.ExprElem, k, 0, x, y) }
	index := func(k int, x, y api.Expr) api.Expr { return term(api.ExprIndex, k, 0, x, y) }
	size := func(k int, x api.Expr) api.Expr { return term(api.ExprLen, k, 0, x) }
	slice := func(x, y, z api.Expr) api.Expr { return term(api.ExprSlice, 0, 0, x, y, z) }
	fresh := func(k int, x api.Expr) api.Expr { return term(api.ExprMake, k, 0, x) }
	is(t, "of a slice", elem(to64, of(list), num(1)), to64)
	is(t, "of bytes", elem(toU8, of(list8), num(1)), toU8)
	is(t, "of slices", elem(toList, of(lists), num(1)), toList)
	is(t, "of arrays", elem(toArr, of(listArr), num(1)), toArr)
	is(t, "of an array", elem(to64, of(toArr), num(1)), to64)
	is(t, "a byte", index(u8, of(text2), num(1)), u8)
	is(t, "a byte", index(u82, of(text), num(1)), u82)
	is(t, "a length", size(i64, of(text)), i64)
	is(t, "another length", size(num2, of(listArr)), num2)
	for _, k := range localsHere() {
		if isWhole(k) {
			is(t, "its kind", elem(to64, of(list), of(k)), to64)
			is(t, "its kind", index(u8, of(text), of(k)), u8)
			is(t, "its kind", slice(of(text2), of(k), num(1)), text2)
			is(t, "its kind", slice(of(lists), num(1), of(k)), lists)
			is(t, "its kind", fresh(listArr, of(k)), listArr)
		} else {
			isNone(t, "by no int", elem(to64, of(toArr), of(k)), api.ErrCheckType)
			isNone(t, "by no int", index(u8, of(text), of(k)), api.ErrCheckType)
			isNone(t, "by no int", slice(of(text2), of(k), num(1)), api.ErrCheckType)
			isNone(t, "by no int", slice(of(lists), num(1), of(k)), api.ErrCheckType)
			isNone(t, "by no int", fresh(list, of(k)), api.ErrCheckType)
		}
		if isSlice(k) || isString(k) {
			is(t, "of it", size(i64, of(k)), i64)
			is(t, "of it", slice(of(k), num(1), of(u8)), k)
		} else {
			isNone(t, "no list", size(i64, of(k)), api.ErrCheckType)
			isNone(t, "no list", slice(of(k), num(1), num(2)), api.ErrCheckType)
		}
		if !isString(k) {
			isNone(t, "no string", index(u8, of(k), num(1)), api.ErrCheckType)
		}
		if k != list && k != toArr {
			isNone(t, "no slice, no array", elem(to64, of(k), num(1)), api.ErrCheckType)
		}
	}
	for k := range manyType + 1 {
		if k != to64 {
			isNone(t, "not to the element", elem(k, of(list), num(1)), api.ErrCheckType)
			isNone(t, "not to the element", elem(k, of(toArr), num(1)), api.ErrCheckType)
		}
		if k != toU8 {
			isNone(t, "not to the element", elem(k, of(list8), num(1)), api.ErrCheckType)
		}
		if k != u8 && k != u82 {
			isNone(t, "no byte", index(k, of(text), num(1)), api.ErrCheckType)
		}
		if k != i64 && k != num2 {
			isNone(t, "no length", size(k, of(text)), api.ErrCheckType)
		}
		if isSlice(k) {
			is(t, "made", fresh(k, num(1)), k)
		} else {
			isNone(t, "not made", fresh(k, num(1)), api.ErrCheckType)
		}
	}
}

// TestTermOrder: P9.1: of a term what the chapter lists first: what it must not have, how many Args, an entry, the Args' from left to right, the row's.
func TestTermOrder(t *testing.T) {
	bad, few := loc(99), un(api.UnNeg, loc(0))
	few.Args = nil
	rows := []struct {
		op, args int
		n        int64
		t, s     bool
	}{
		{api.ExprConst, 0, 1, true, false}, {api.ExprStr, 0, 0, true, true}, {api.ExprNil, 0, 0, true, false}, {api.ExprLocal, 0, 1, false, false},
		{api.ExprUn, 1, api.UnNeg, false, false}, {api.ExprBin, 2, api.BinAdd, false, false}, {api.ExprBin, 2, api.BinXor, false, false}, {api.ExprBin, 2, api.BinShl, false, false}, {api.ExprBin, 2, api.BinShr, false, false},
		{api.ExprBin, 2, api.BinEq, true, false}, {api.ExprBin, 2, api.BinGe, true, false}, {api.ExprAnd, 2, 0, false, false}, {api.ExprOr, 2, 0, false, false}, {api.ExprConv, 1, 0, true, false}, {api.ExprField, 1, 1, false, false},
		{api.ExprStruct, -1, 0, true, false}, {api.ExprLoad, 1, 0, false, false}, {api.ExprAddr, 1, 1, true, false}, {api.ExprElem, 2, 0, true, false}, {api.ExprIndex, 2, 0, true, false}, {api.ExprLen, 1, 0, true, false},
		{api.ExprSlice, 3, 0, false, false}, {api.ExprNew, 0, 0, true, false}, {api.ExprMake, 1, 0, true, false},
	}
	seen := map[int]int{}
	for _, r := range rows {
		seen[r.op]++
		for n := range 5 {
			args := []api.Expr{few, bad, bad, bad, bad}[:n]
			x := term(r.op, 0, r.n, args...)
			if r.t {
				x.T = manyType
			}
			with := x
			if !r.s {
				with.S = "a"
				isNone(t, "a text too many", with, api.ErrCheckOp)
			}
			if with = x; r.n == 0 {
				with.N = 1
				isNone(t, "an N too many", with, api.ErrCheckOp)
				with.N = -1
				isNone(t, "an N too many", with, api.ErrCheckOp)
			}
			if with = x; !r.t {
				with.T = 1
				isNone(t, "a T too many", with, api.ErrCheckOp)
				with.T = -1
				isNone(t, "a T too many", with, api.ErrCheckOp)
			}
			with = x
			switch {
			case r.args >= 0 && n != r.args:
				isNone(t, "another number of Args", with, api.ErrCheckCount)
			case r.t:
				isNone(t, "no entry", with, api.ErrCheckType)
				with.T = -1
				isNone(t, "no entry", with, api.ErrCheckType)
				fallthrough
			default:
				if with.T = 0; n > 0 {
					isNone(t, "an Arg without one", with, api.ErrCheckCount)
					with.Args = append([]api.Expr{bad, few}, few, few, few)[:n]
					isNone(t, "an Arg that is no local", with, api.ErrCheckLocal)
					with.Args = append([]api.Expr{of(none)}, bad, few, few, few)[:n]
					if n > 1 {
						isNone(t, "the second Arg", with, api.ErrCheckLocal)
					}
				}
			}
		}
	}
	if len(seen) != api.ExprMake {
		t.Errorf("%d of %d", len(seen), api.ExprMake)
	}
	for _, op := range []int{api.ExprNone, api.ExprMake + 1, -1, math.MaxInt32} {
		isNone(t, "no Op", term(op, manyType, 0, bad), api.ErrCheckOp)
	}
	for _, n := range []int64{0, -1, api.UnCom + 1, 1 << 32, 1<<32 + 1, math.MinInt64} {
		isNone(t, "no operation", un(n, bad), api.ErrCheckOp)
		isNone(t, "no operation", term(api.ExprUn, 0, n), api.ErrCheckOp)
	}
	for _, n := range []int64{0, -1, api.BinGe + 1, 1 << 32, 1<<32 + 1, math.MinInt64} {
		isNone(t, "no operation", bin(n, bad, bad), api.ErrCheckOp)
		isNone(t, "no operation", compare(n, num(1), num(1)), api.ErrCheckOp)
		isNone(t, "no operation", term(api.ExprBin, 0, n), api.ErrCheckOp)
	}
}
