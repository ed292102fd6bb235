package build_test

import (
	"testing"

	"gantry/api"
	. "gantry/draft"
)

// ends holds how a run ends that works out a term of the type k, with the argument n: ahead of it a 1 is told, behind it a 2.
func ends(t *testing.T, name string, j, k int, x api.Expr, n uint64, end int, kind int64) {
	t.Helper()
	p := Program(Function(1, []int{j, k}, []int{I64}, Emit(Num(1)), Set(1, x), Emit(Num(2)), Ret(Num(0))))
	trace := words(1)
	if end == api.EndExit {
		trace = words(1, 2)
	}
	does(t, name, p, words(n), end, kind, trace...)
}

// goes and panics hold that a term of the argument n, of type j, goes on, or how it does not.
func goes(t *testing.T, name string, j, k int, x api.Expr, n uint64) {
	t.Helper()
	ends(t, name, j, k, x, n, api.EndExit, 0)
}

func panics(t *testing.T, name string, j, k int, x api.Expr, n uint64, kind int64) {
	t.Helper()
	ends(t, name, j, k, x, n, api.EndPanic, kind)
}

// TestNoNumber: P16.1: a division by 0 and a rest by 0 of every int kind, a shift by less than 0, by a constant and by an argument.
func TestNoNumber(t *testing.T) {
	t.Parallel()
	for _, k := range Wholes() {
		for _, op := range []int64{api.BinDiv, api.BinRem} {
			panics(t, "by 0", k, k, Bin(op, Con(k, 5), Con(k, 0)), 1, api.PanicDiv)
			panics(t, "by an argument of 0", k, k, Bin(op, Con(k, 5), Loc(0)), 0, api.PanicDiv)
			goes(t, "by 1", k, k, Bin(op, Con(k, Least(k)), Loc(0)), uint64(Least(k)|1))
			goes(t, "by the greatest", k, k, Bin(op, Con(k, Least(k)), Loc(0)), uint64(Greatest(k)))
		}
		for _, op := range []int64{api.BinShl, api.BinShr} {
			goes(t, "very far", k, I8, Bin(op, Con(I8, 5), Loc(0)), uint64(Greatest(k)))
			goes(t, "not at all", k, I8, Bin(op, Con(I8, 5), Con(k, 0)), 0)
			if IsSigned(k) {
				panics(t, "by -1", k, I8, Bin(op, Con(I8, 5), Con(k, -1)), 0, api.PanicShift)
				panics(t, "by the least", k, I8, Bin(op, Con(I8, 5), Loc(0)), uint64(Least(k)), api.PanicShift)
			}
		}
	}
	goes(t, "a float by 0", F64, F64, Bin(api.BinDiv, Loc(0), Float(0)), 0)
}

// indexed are terms of the type told, by the index i, of what has 3 elements.
func indexed(i api.Expr) map[int]api.Expr {
	return map[int]api.Expr{
		To64:   Elem(To64, Row(List, Num(3)), i),
		U8:     Index(Str("abc"), i),
		I64:    Load(Elem(To64, Fresh(ToArr), i)),
		ToPair: Elem(ToPair, Slice(Row(Pairs, Num(9)), Num(2), Num(5)), i),
		ToNone: Elem(ToNone, Row(Nones, Con(U8, 3)), i),
	}
}

// TestIndices: P16.1: an index below 0, at the length, far beyond, of each int kind.
func TestIndices(t *testing.T) {
	t.Parallel()
	for _, j := range Wholes() {
		for k, x := range indexed(Loc(0)) {
			goes(t, "the first", j, k, x, 0)
			goes(t, "the last", j, k, x, 2)
			panics(t, "at the length", j, k, x, 3, api.PanicIndex)
			panics(t, "far beyond", j, k, x, uint64(Greatest(j)), api.PanicIndex)
			if IsSigned(j) {
				panics(t, "-1", j, k, x, minus(1), api.PanicIndex)
				panics(t, "far below", j, k, x, uint64(Least(j)), api.PanicIndex)
			}
		}
	}
	panics(t, "above 2^63", U64, To64, Elem(To64, Row(List, Num(3)), Loc(0)), 1<<63, api.PanicIndex)
	for name, x := range map[string]api.Expr{"no elements": Elem(To64, Row(List, Num(0)), Loc(0)), "a nil slice": Elem(To64, Null(List), Loc(0)), "an array of none": Elem(To64, Fresh(ToNil0), Loc(0))} {
		panics(t, name, I64, To64, x, 0, api.PanicIndex)
	}
	panics(t, "an empty text", I64, U8, Index(Str(""), Loc(0)), 0, api.PanicIndex)
}

// TestBounds: P16.1: bounds of a slice out of order, of a slice and of a text.
func TestBounds(t *testing.T) {
	t.Parallel()
	for _, j := range Wholes() {
		for k, x := range map[int]api.Expr{List: Row(List, Num(3)), Text: Str("abc")} {
			from, to, both := Slice(x, Loc(0), Num(2)), Slice(x, Con(U8, 1), Loc(0)), Slice(x, Loc(0), Loc(0))
			for n := range uint64(3) {
				goes(t, "from", j, k, from, n)
				goes(t, "to", j, k, to, n+1)
				goes(t, "none", j, k, both, n+1)
			}
			panics(t, "from behind to", j, k, from, 3, api.PanicSlice)
			panics(t, "to ahead of from", j, k, to, 0, api.PanicSlice)
			for _, y := range []api.Expr{from, to, both} {
				panics(t, "behind the end", j, k, y, 4, api.PanicSlice)
				panics(t, "far behind", j, k, y, uint64(Greatest(j)), api.PanicSlice)
				if IsSigned(j) {
					panics(t, "-1", j, k, y, minus(1), api.PanicSlice)
					panics(t, "the least", j, k, y, uint64(Least(j)), api.PanicSlice)
				}
			}
		}
	}
	goes(t, "a nil slice", I64, List, Slice(Null(List), Loc(0), Loc(0)), 0)
	panics(t, "a nil slice to 1", I64, List, Slice(Null(List), Num(0), Loc(0)), 1, api.PanicSlice)
	p := Program(Function(1, []int{I64, List, Text}, []int{I64},
		Set(1, Row(List, Num(9))), Store(Elem(To64, Loc(1), Num(4)), Num(44)), Set(1, Slice(Loc(1), Loc(0), Num(8))), Set(1, Slice(Loc(1), Loc(0), Num(5))),
		Emit(Load(Elem(To64, Loc(1), Num(0)))), Emit(Length(Loc(1))), Set(2, Slice(Str("abcdefgh"), Loc(0), Num(6))), Set(2, Slice(Loc(2), Num(1), Length(Loc(2)))),
		Emit(Index(Loc(2), Num(0))), Ret(Length(Loc(2)))))
	does(t, "slices of slices", p, words(2), api.EndExit, 3, 44, 3, 'd')
}

// TestNil: P16.1: a nil pointer that is loaded, or stored to, its field, its element; so of what has no words.
func TestNil(t *testing.T) {
	t.Parallel()
	p := Loc(1)
	for _, c := range []struct {
		name string
		k    int
		does api.Stmt // with the pointer
	}{
		{"loaded", To64, Set(2, Load(p))},
		{"a struct loaded", ToPair, Set(2, Field(1, Load(p)))},
		{"no words loaded", ToNone, Set(3, Load(p))},
		{"stored", To64, Store(p, Num(1))},
		{"a struct stored", ToPair, Store(p, Made(Pair, Con(U8, 1), Num(2)))},
		{"no words stored", ToNone, Store(p, Made(None))},
		{"its first field", ToPair, Set(4, Addr(ToU8, 0, p))},
		{"its field", ToMix, Set(5, Addr(ToPair, 2, p))},
		{"an array's element", ToArr, Set(6, Elem(To64, p, Num(2)))},
		{"a great array's element", ToWide, Set(4, Elem(ToU8, p, Con(I32, api.MaxSize-1)))},
	} {
		q := Program(Function(1, []int{Yes, c.k, I64, None, ToU8, ToPair, To64}, []int{I64}, When(Loc(0), Body(Set(1, Fresh(c.k))), nil), Emit(Num(1)), c.does, Emit(Num(2)), Ret(Num(0))))
		does(t, c.name, q, words(0), api.EndPanic, api.PanicNil, 1)
		does(t, c.name, q, words(1), api.EndExit, 0, 1, 2)
	}
	panics(t, "what a new pointer points to", I64, I64, Load(Load(Fresh(ToTo))), 0, api.PanicNil)
	panics(t, "no element of no array", I64, To64, Elem(To64, Null(ToArr), Num(9)), 0, api.PanicNil)
}

// TestMake: P16.1: the lengths of new slices; a block of 0 bytes, and one for which there is no room.
func TestMake(t *testing.T) {
	t.Parallel()
	const most = api.MaxMemory
	for _, j := range Wholes() {
		x := Row(List, Loc(0))
		goes(t, "none", j, List, x, 0)
		goes(t, "some", j, List, x, 100)
		if IsSigned(j) {
			panics(t, "-1", j, List, x, minus(1), api.PanicMake)
			panics(t, "the least", j, List, x, uint64(Least(j)), api.PanicMake)
		}
		if n := uint64(Greatest(j)); n > most {
			panics(t, "the greatest", j, List, x, n, api.PanicMake)
			panics(t, "of no bytes", j, Nones, Row(Nones, Loc(0)), n, api.PanicMake)
		}
	}
	for k, size := range map[int]uint64{List: 8, Smalls: 2, Bits: 1, Mixes: 72, Wides: 1 << 16, Thins: 12} {
		panics(t, "one more than may be", U64, k, Row(k, Loc(0)), most/size+1, api.PanicMake)
		ends(t, "as many as may be", U64, k, Row(k, Loc(0)), most/size, api.EndResource, 0)
		ends(t, "one more than there is room for", U64, k, Row(k, Loc(0)), (most-api.DataBase)/size+1, api.EndResource, 0)
		goes(t, "as many as there is room for", U64, k, Row(k, Loc(0)), (most-api.DataBase)/size)
	}
	goes(t, "many of no bytes", U64, Nones, Row(Nones, Loc(0)), most)
	panics(t, "too many of no bytes", U64, Nones, Row(Nones, Loc(0)), most+1, api.PanicMake)
	panics(t, "so many that bytes wrap round", U64, Wides, Row(Wides, Loc(0)), 1<<48, api.PanicMake)
	small := Alone([]int{ToNone, I64}, Loop(Set(0, Fresh(ToNone)), up(1, 1), When(Compare(api.BinEq, Bin(api.BinAnd, Loc(1), Num(1<<10-1)), Num(0)), Body(Emit(Loc(1))), nil)))
	r := hold(t, "blocks of no bytes", small)
	if r.End != api.EndFuel {
		t.Errorf("%+v", r)
	}
	does(t, "blocks that fill the memory", Alone([]int{ToWide, I64}, Loop(Set(0, Fresh(ToWide)), up(1, 1), Emit(Loc(1)))), nil, api.EndResource, 0, words(1, 2, 3, 4, 5, 6, 7, 8, 9, 10, 11, 12, 13, 14, 15)...)
}

// TestOrder: P16.1: operands are asked from left to right, a statement's Args too, ahead of what is asked of them together.
func TestOrder(t *testing.T) {
	t.Parallel()
	zero := Bin(api.BinDiv, Num(1), Num(0))
	less := Bin(api.BinShl, Num(1), Num(-1))
	void := Load(Null(To64))
	bad := Index(Str("a"), Num(1))
	two := Function(2, []int{I64, I64}, nil, Ret())
	for _, c := range []struct {
		name string
		l    []api.Stmt
		kind int64
	}{
		{"ExprBin", Body(Emit(Bin(api.BinAdd, zero, less))), api.PanicDiv},
		{"ExprBin, the other way", Body(Emit(Bin(api.BinAdd, less, zero))), api.PanicShift},
		{"a division by 0 of what is not there", Body(Emit(Bin(api.BinDiv, void, Num(0)))), api.PanicNil},
		{"a division by what is not there", Body(Emit(Bin(api.BinDiv, Num(1), void))), api.PanicNil},
		{"a shift", Body(Emit(Bin(api.BinShr, zero, Num(-1)))), api.PanicDiv},
		{"ExprElem", Body(Set(1, Elem(To64, Null(ToArr), zero))), api.PanicDiv},
		{"ExprIndex", Body(Emit(Index(Slice(Str("abc"), Num(2), Num(1)), zero))), api.PanicSlice},
		{"ExprSlice", Body(Set(2, Slice(Row(List, Num(-1)), zero, less))), api.PanicMake},
		{"ExprSlice, lo", Body(Set(2, Slice(Null(List), less, zero))), api.PanicShift},
		{"ExprSlice, hi", Body(Set(2, Slice(Null(List), Num(5), zero))), api.PanicDiv},
		{"ExprStruct", Body(Set(3, Made(Pair, bad, zero))), api.PanicIndex},
		{"ExprStruct, all", Body(Set(0, Field(1, Made(Pair, bad, Num(1))))), api.PanicIndex},
		{"StmtStore", Body(Store(Elem(To64, Null(List), Num(0)), zero)), api.PanicIndex},
		{"StmtStore, what is stored", Body(Store(Null(To64), zero)), api.PanicDiv},
		{"StmtCall", Body(Call(1, nil, less, zero)), api.PanicShift},
		{"StmtCall, the last one", Body(Call(1, nil, Num(1), zero)), api.PanicDiv},
		{"StmtReturn", Body(Call(2, []int{0, 4})), api.PanicNil},
		{"StmtIf", Body(When(Compare(api.BinEq, zero, Num(1)), Body(Emit(void)), nil)), api.PanicDiv},
	} {
		p := Program(Function(0, []int{I64, To64, List, Pair, I64}, []int{I64}, append(Body(Emit(Num(1))), append(c.l, Emit(Num(2)), Ret(Num(0)))...)...), two, Function(0, nil, []int{I64, I64}, Ret(void, zero)))
		does(t, c.name, p, nil, api.EndPanic, c.kind, 1)
	}
	pairs := Program(Function(0, nil, []int{I64}, Call(1, nil, Row(List, Num(1)), Fresh(To64), Row(List, Num(2))), Ret(Num(0))), Function(3, []int{List, To64, List}, nil, Ret()))
	does(t, "blocks, from left to right", pairs, nil, api.EndExit, 0)
}
