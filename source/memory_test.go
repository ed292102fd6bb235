package source_test

import (
	"math"
	"slices"
	"strings"
	"testing"

	"gantry/api"
	. "gantry/draft"
	"gantry/source"
)

// first is where the heap begins of a program without texts.
const first = api.DataBase

// TestLoadStore: ExprLoad, StmtStore: the words of values of all kinds, as they lie; new blocks are 0.
func TestLoadStore(t *testing.T) {
	x := Made(Mix, Con(Yes, 1), Str("abc"), Made(Pair, Con(U8, 250), Num(-3)), Con(U16, 65535), Row(List, Num(2)), Made(None), Con(I8, -5))
	for _, c := range []struct {
		k, to int
		x     api.Expr
	}{
		{I64, To64, Num(math.MinInt64)}, {Yes, ToYes, Con(Yes, 1)}, {U8, ToU8, Con(U8, 255)}, {I16, ToI16, Con(I16, -2)}, {U32, ToU32, Con(U32, math.MaxUint32)}, {F64, ToF64, Float(OtherNaN)}, {Text, ToText, Str("abc")}, {Pair, ToPair, Made(Pair, Con(U8, 1), Num(-1))}, {None, ToNone, Made(None)}, {List, ToList, Row(List, Num(5))}, {Mix, ToMix, x}, {To64, ToTo, Fresh(To64)}, {Thin, ToThin, Made(Thin, Con(U8, 200), Con(I16, -300), Con(Yes, 1), Con(U8, 100), Con(U32, 1<<32-2))},
	} {
		zero := handed(t, c.k, Load(Fresh(c.to)), nil)
		if len(zero) != len(handed(t, c.k, c.x, nil)) || slices.ContainsFunc(zero, func(w uint64) bool { return w != 0 }) {
			t.Errorf("%d: new: %d", c.k, zero)
		}
		want := handed(t, c.k, Loc(1), []int{c.to, c.k}, Set(1, c.x))
		got := handed(t, c.k, Load(Loc(0)), []int{c.to, c.k}, Set(1, c.x), Set(0, Fresh(c.to)), Store(Loc(0), Loc(1)))
		if !slices.Equal(got, want) {
			t.Errorf("%d: %d, not %d", c.k, got, want)
		}
		ends(t, "load", c.k, Load(Null(c.to)), panics(api.PanicNil))
		p := Alone([]int{c.to}, Emit(Num(1)), Store(Loc(0), c.x), Emit(Num(2)), Ret(Num(0)))
		runs(t, "store", p, nil, 9, panics(api.PanicNil, 1))
	}
}

// TestStoreOrder: StmtStore: the pointer, then the value, then PanicNil.
func TestStoreOrder(t *testing.T) {
	zero, left := Bin(api.BinDiv, Num(1), Num(0)), Bin(api.BinShl, Num(1), Num(-1))
	for _, c := range []struct {
		p, x api.Expr
		want api.Run
	}{
		{Null(To64), zero, panics(api.PanicDiv)}, {Elem(To64, Null(List), Num(0)), zero, panics(api.PanicIndex)}, {Addr(To64, 1, Null(ToPair)), left, panics(api.PanicNil)}, {Null(To64), Num(1), panics(api.PanicNil)}, {Fresh(To64), left, panics(api.PanicShift)}, {Null(To64), Length(Row(List, Num(api.MaxMemory/8))), resource()},
	} {
		runs(t, "store", Alone(nil, Store(c.p, c.x), Emit(Num(2)), Ret(Num(0))), nil, 9, c.want)
	}
}

// TestAddr: ExprAddr: the pointer and the field's offset; stores to fields are loads of the whole.
func TestAddr(t *testing.T) {
	for i, want := range []uint64{0, 8} { // of pair: u8, i64
		if w := handed(t, []int{ToU8, To64}[i], Addr([]int{ToU8, To64}[i], int64(i), Fresh(ToPair)), nil); !slices.Equal(w, words(first+want)) {
			t.Errorf("%d: %d", i, w)
		}
	}
	for n, c := range map[int64]struct {
		t    int
		want uint64
	}{0: {ToU8, 0}, 1: {ToArr, 8}, 2: {ToNone, 32}, 3: {ToI16, 32}} {
		if w := handed(t, c.t, Addr(c.t, n, Fresh(ToHold)), nil); !slices.Equal(w, words(first+c.want)) {
			t.Errorf("%d: %d", n, w)
		}
		ends(t, "of nil", c.t, Addr(c.t, n, Null(ToHold)), panics(api.PanicNil))
	}
	put := Body(Set(0, Fresh(ToMix)), Store(Addr(ToText, 1, Loc(0)), Str("xyz")), Store(Addr(ToPair, 2, Loc(0)), Made(Pair, Con(U8, 8), Num(-9))), Store(Addr(ToList, 4, Loc(0)), Row(List, Num(6))), Store(Addr(ToYes, 0, Loc(0)), Con(Yes, 1)), Store(Addr(To64, 1, Addr(ToPair, 2, Loc(0))), Num(77)))
	want := words(1, api.DataBase, 3, 8, 77, 0, api.DataBase+8+72, 6, 0)
	if w := handed(t, Mix, Load(Loc(0)), []int{ToMix}, put...); !slices.Equal(w, want) {
		t.Errorf("%d, not %d", w, want)
	}
	if w := handed(t, ToNone, Addr(ToNone, 5, Fresh(ToMix)), nil); !slices.Equal(w, words(first+64)) {
		t.Errorf("a field of nothing: %d", w)
	}
}

// TestFieldsAndWhole: a struct's words lie where its fields do, however small they are.
func TestFieldsAndWhole(t *testing.T) {
	x := Made(Thin, Con(U8, 200), Con(I16, -300), Con(Yes, 1), Con(U8, 100), Con(U32, 1<<32-2))
	want := words(200, minus(300), 1, 100, 1<<32-2)
	kinds := []int{ToU8, ToI16, ToYes, ToU8, ToU32}
	put := Body(Set(0, Row(Thins, Num(3))))
	for i, k := range kinds {
		at := Addr(k, int64(i), Elem(ToThin, Loc(0), Num(1)))
		tells(t, "a field of what was stored", Load(at), want[i], []int{Thins}, append(put, Store(Elem(ToThin, Loc(0), Num(1)), x))...)
		if w := handed(t, k, at, []int{Thins}, put...); !slices.Equal(w, words(first+12+[]uint64{0, 2, 4, 5, 8}[i])) {
			t.Errorf("%d: %d", i, w)
		}
	}
	for i, k := range kinds {
		put = append(put, Store(Addr(k, int64(i), Elem(ToThin, Loc(0), Num(1))), Field(int64(i), x)))
	}
	for i, want := range [][]uint64{make([]uint64, 5), want, make([]uint64, 5)} {
		if w := handed(t, Thin, Load(Elem(ToThin, Loc(0), Num(int64(i)))), []int{Thins}, put...); !slices.Equal(w, want) {
			t.Errorf("%d: %d", i, w)
		}
	}
}

// TestPointers: BinEq, BinNe of pointers: by where they point to.
func TestPointers(t *testing.T) {
	put := Body(Set(0, Fresh(ToPair)), Set(1, Loc(0)), Set(2, Fresh(ToPair)))
	locals := []int{ToPair, ToPair, ToPair, ToPair}
	for _, c := range []struct {
		x, y api.Expr
		want uint64
	}{
		{Loc(0), Loc(1), 1}, {Loc(0), Loc(2), 0}, {Loc(3), Null(ToPair), 1}, {Loc(0), Null(ToPair), 0}, {Addr(To64, 1, Loc(0)), Addr(To64, 1, Loc(1)), 1}, {Addr(To64, 1, Loc(0)), Addr(To64, 1, Loc(2)), 0}, {Fresh(To64), Fresh(To64), 0}, {Fresh(ToNone), Fresh(ToNone), 0},
	} {
		tells(t, "BinEq", Compare(api.BinEq, c.x, c.y), c.want, locals, put...)
		tells(t, "BinNe", Compare(api.BinNe, c.x, c.y), 1-c.want, locals, put...)
	}
}

// indices are indices of each kind, and whether each is from 0 to below 3.
func indices() map[bool][]api.Expr {
	l := map[bool][]api.Expr{}
	for _, k := range Wholes() {
		l[true] = append(l[true], Con(k, 0), Con(k, 2))
		l[false] = append(l[false], Con(k, 3), Con(k, 4), Con(k, Greatest(k)))
		if IsSigned(k) {
			l[false] = append(l[false], Con(k, -1), Con(k, Least(k)))
		}
	}
	l[false] = append(l[false], Con(U64, math.MinInt64), Con(U64, math.MinInt64+2), Con(U64, -1), Con(U64, -3), Con(I64, math.MinInt64+1))
	return l
}

// TestElem: ExprElem of slices and of arrays: where the element begins; PanicNil, PanicIndex.
func TestElem(t *testing.T) {
	for in, l := range indices() {
		for _, i := range l {
			for _, c := range []struct {
				k    int
				x    api.Expr
				size uint64
			}{
				{To64, Row(List, Num(3)), 8}, {To64, Fresh(ToArr), 8}, {ToYes, Row(Bits, Num(3)), 1}, {ToI16, Row(Smalls, Num(3)), 2}, {ToMix, Row(Mixes, Num(3)), 72}, {ToNone, Row(Nones, Num(3)), 0}, {ToArr, Row(Arrs, Num(3)), 24}, {ToText, Row(Texts, Num(3)), 16}, {ToThin, Row(Thins, Num(3)), 12},
			} {
				if !in {
					ends(t, "outside", c.k, Elem(c.k, c.x, i), panics(api.PanicIndex))
				} else if w := handed(t, c.k, Elem(c.k, c.x, i), nil); !slices.Equal(w, words(first+uint64(i.N)*c.size)) {
					t.Errorf("%d: %d", i.N, w)
				}
			}
			if !in {
				ends(t, "of a text", U8, Index(Str("abc"), i), panics(api.PanicIndex))
			} else {
				tells(t, "of a text", Index(Str("abc"), i), uint64("abc"[i.N]), nil)
			}
			ends(t, "of a nil slice", To64, Elem(To64, Null(List), i), panics(api.PanicIndex))
			ends(t, "of no array", To64, Elem(To64, Null(ToArr), i), panics(api.PanicNil))
			ends(t, "of an array of none", To64, Elem(To64, Fresh(ToNil0), i), panics(api.PanicIndex))
			ends(t, "of an empty text", U8, Index(Str(""), i), panics(api.PanicIndex))
		}
	}
	if w := handed(t, To64, Elem(To64, Elem(ToArr, Fresh(ToGrid), Num(1)), Num(2)), nil); !slices.Equal(w, words(first+40)) {
		t.Errorf("an array's array: %d", w)
	}
	ends(t, "an array's array", To64, Elem(To64, Elem(ToArr, Fresh(ToGrid), Num(2)), Num(0)), panics(api.PanicIndex))
	tells(t, "the last byte of an array", Load(Elem(ToU8, Fresh(ToWide), Con(U16, math.MaxUint16))), 0, nil)
	ends(t, "behind the last byte", ToU8, Elem(ToU8, Fresh(ToWide), Con(U32, api.MaxSize)), panics(api.PanicIndex))
}

// TestElements: what is stored into one element is there, and the others stay.
func TestElements(t *testing.T) {
	var put []api.Stmt
	for i := range int64(3) {
		put = append(put, Store(Elem(ToI16, Loc(0), Num(i)), Con(I16, -i-1)))
	}
	put = append(Body(Set(0, Row(Smalls, Num(3)))), put...)
	put = append(put, Store(Elem(ToI16, Loc(0), Con(U8, 1)), Con(I16, 500)))
	for i, want := range []uint64{minus(1), 500, minus(3)} {
		tells(t, "an element", Load(Elem(ToI16, Loc(0), Num(int64(i)))), want, []int{Smalls}, put...)
	}
}

// TestSlice: ExprSlice: PanicSlice, unless 0 <= lo <= hi <= the length, by their own kinds; where it begins, how many.
func TestSlice(t *testing.T) {
	of := func(k int) api.Expr { return Row(k, Num(3)) }
	for lo := range int64(6) {
		for hi := range int64(6) {
			for i, k := range Wholes() {
				a, b := Con(k, lo-1), Con(Wholes()[(i+3)%8], hi-1)
				if lo == 0 && !IsSigned(a.T) || hi == 0 && !IsSigned(b.T) {
					continue
				}
				if lo < 1 || lo > hi || hi > 4 {
					ends(t, "bounds", List, Slice(of(List), a, b), panics(api.PanicSlice))
					ends(t, "bounds of a text", Text, Slice(Str("abc"), a, b), panics(api.PanicSlice))
					continue
				}
				for k, size := range map[int]uint64{List: 8, Smalls: 2, Bits: 1, Mixes: 72, Nones: 0, Wides: 1 << 16} {
					if w := handed(t, k, Slice(of(k), a, b), nil); !slices.Equal(w, words(first+uint64(lo-1)*size, uint64(hi-lo))) {
						t.Errorf("%d, %d, %d: %d", k, lo-1, hi-1, w)
					}
				}
				if w := handed(t, Text, Slice(Str("abc"), a, b), nil); !slices.Equal(w, words(api.DataBase+uint64(lo-1), uint64(hi-lo))) {
					t.Errorf("of a text: %d, %d: %d", lo-1, hi-1, w)
				}
			}
		}
	}
	for _, far := range []api.Expr{Con(U64, -1), Con(U64, math.MinInt64), Con(I64, math.MinInt64), Con(U64, math.MaxInt64)} {
		ends(t, "far", List, Slice(of(List), Num(0), far), panics(api.PanicSlice))
		ends(t, "far", List, Slice(of(List), far, Num(3)), panics(api.PanicSlice))
		ends(t, "both far", List, Slice(of(List), far, far), panics(api.PanicSlice))
	}
}

// TestSliceOfSlice: bounds are those of the part, not of what it was cut from; parts share their elements.
func TestSliceOfSlice(t *testing.T) {
	ends(t, "beyond the part", List, Slice(Slice(Row(List, Num(5)), Num(1), Num(3)), Num(0), Num(3)), panics(api.PanicSlice))
	if w := handed(t, List, Slice(Slice(Row(List, Num(5)), Num(1), Num(4)), Num(1), Num(2)), nil); !slices.Equal(w, words(first+16, 1)) {
		t.Errorf("%d", w)
	}
	if w := handed(t, List, Slice(Null(List), Num(0), Num(0)), nil); !slices.Equal(w, words(0, 0)) {
		t.Errorf("of nil: %d", w)
	}
	ends(t, "of nil", List, Slice(Null(List), Num(0), Num(1)), panics(api.PanicSlice))
	ends(t, "an index of a part", To64, Elem(To64, Slice(Row(List, Num(5)), Num(1), Num(3)), Num(2)), panics(api.PanicIndex))
	put := Body(Set(0, Row(List, Num(5))), Set(1, Slice(Loc(0), Num(2), Num(4))), Store(Elem(To64, Loc(1), Num(1)), Num(66)))
	tells(t, "shared", Load(Elem(To64, Loc(0), Num(3))), 66, []int{List, List}, put...)
	tells(t, "a text's part", Index(Slice(Str("abcdef"), Num(2), Num(5)), Num(1)), 'd', nil)
}

// TestLen: ExprLen of slices and texts.
func TestLen(t *testing.T) {
	for n := range int64(5) {
		tells(t, "a slice", Length(Row(List, Num(n))), uint64(n), nil)
		tells(t, "a slice of nothing", Length(Row(Nones, Num(n))), uint64(n), nil)
		tells(t, "a text", Length(Str("abcd"[:n])), uint64(n), nil)
		tells(t, "a part", Length(Slice(Str("abcd"), Num(n), Num(4))), uint64(4-n), nil)
	}
	long := strings.Repeat("x", api.MaxText)
	tells(t, "the longest text", Length(Str(long)), api.MaxText, nil)
}

// TestBlocks: new blocks stand one behind the other, behind the data: multiples of 8, at least 8.
func TestBlocks(t *testing.T) {
	for n := range 18 {
		at := uint64(api.DataBase + (n+7)/8*8)
		if w := handed(t, To64, Fresh(To64), nil, emit0(Str("abcdefghijklmnopqr"[:n]))...); !slices.Equal(w, words(at)) {
			t.Errorf("data of %d: %d", n, w)
		}
	}
	for _, c := range []struct {
		k    int
		x    api.Expr
		want uint64
	}{
		{To64, Fresh(To64), 8}, {ToYes, Fresh(ToYes), 8}, {ToNone, Fresh(ToNone), 8}, {ToPair, Fresh(ToPair), 16}, {ToMix, Fresh(ToMix), 72}, {ToHold, Fresh(ToHold), 40}, {ToArr, Fresh(ToArr), 24}, {ToWide, Fresh(ToWide), 1 << 16}, {ToNil0, Fresh(ToNil0), 8}, {ToFull, Fresh(ToFull), 128}, {Self, Fresh(Self), 8},
		{List, Row(List, Num(0)), 8}, {List, Row(List, Num(1)), 8}, {List, Row(List, Num(2)), 16}, {Bits, Row(Bits, Num(8)), 8}, {Bits, Row(Bits, Num(9)), 16}, {Smalls, Row(Smalls, Num(5)), 16}, {Nones, Row(Nones, Num(1000)), 8}, {Mixes, Row(Mixes, Con(U8, 3)), 216}, {Wides, Row(Wides, Con(I8, 2)), 1 << 17},
	} {
		w := handed(t, To64, Fresh(To64), []int{c.k, c.k}, Set(0, c.x), Set(1, c.x))
		if !slices.Equal(w, words(first+2*c.want)) {
			t.Errorf("%d: %d", c.k, w)
		}
	}
	if w := handed(t, Nones, Row(Nones, Num(api.MaxMemory)), nil); !slices.Equal(w, words(first, api.MaxMemory)) {
		t.Errorf("as many as can be of nothing: %d", w)
	}
}

// TestMake: PanicMake, unless it is from 0 to MaxMemory, by its own kind, and so many elements have no more than MaxMemory bytes.
func TestMake(t *testing.T) {
	const most = api.MaxMemory
	for _, c := range []struct {
		t    int
		n    api.Expr
		want api.Run
	}{
		{List, Num(-1), panics(api.PanicMake)}, {List, Num(math.MinInt64), panics(api.PanicMake)}, {List, Con(I8, -1), panics(api.PanicMake)}, {Nones, Con(I16, -1), panics(api.PanicMake)}, {List, Con(U64, -1), panics(api.PanicMake)}, {List, Con(U64, math.MinInt64), panics(api.PanicMake)}, {Nones, Con(U64, math.MinInt64), panics(api.PanicMake)}, {Nones, Con(U64, -1), panics(api.PanicMake)}, {List, Num(1 << 61), panics(api.PanicMake)}, {List, Num(1<<61 + 1), panics(api.PanicMake)}, {Wides, Num(1 << 48), panics(api.PanicMake)},
		{Nones, Num(most + 1), panics(api.PanicMake)}, {Bits, Num(most + 1), panics(api.PanicMake)}, {List, Num(most/8 + 1), panics(api.PanicMake)}, {List, Num(most), panics(api.PanicMake)}, {Wides, Num(17), panics(api.PanicMake)}, {Mixes, Num(most/72 + 1), panics(api.PanicMake)},
		{Bits, Num(most), resource()}, {List, Num(most / 8), resource()}, {Wides, Num(16), resource()}, {Mixes, Con(U32, most/72), resource()},
		{Bits, Num(most - first + 1), resource()}, {List, Num((most-first)/8 + 1), resource()},
	} {
		ends(t, "ExprMake", c.t, Row(c.t, c.n), c.want)
	}
	for k, n := range map[int]int64{Bits: most - first, List: (most - first) / 8, Nones: most, Wides: 15} {
		if w := handed(t, k, Row(k, Num(n)), nil); !slices.Equal(w, words(first, uint64(n))) {
			t.Errorf("%d: %d", k, w)
		}
	}
}

// TestHeapEnd: a heap that just fits, and one block more; its last byte is there.
func TestHeapEnd(t *testing.T) {
	const room = api.MaxMemory - first
	all := Row(Bits, Num(room-8))
	locals := []int{Bits, ToYes, ToNone}
	p := func(l ...api.Stmt) api.Program { return Alone(locals, append(l, Ret(Num(0)))...) }
	runs(t, "just fits", p(Set(0, all), Set(1, Fresh(ToYes)), Emit(Num(1))), nil, 9, exits(0, 1))
	runs(t, "one more", p(Set(0, all), Set(1, Fresh(ToYes)), Emit(Num(1)), Set(2, Fresh(ToNone))), nil, 9, resource(1))
	runs(t, "one more row", p(Set(0, all), Set(1, Fresh(ToYes)), Emit(Num(1)), Set(0, Row(Bits, Num(0)))), nil, 9, resource(1))
	runs(t, "the last byte", p(Set(0, Row(Bits, Num(room))), Store(Elem(ToYes, Loc(0), Num(room-1)), Con(Yes, 1)), Emit(Load(Elem(ToYes, Loc(0), Num(room-1)))), Emit(Load(Elem(ToYes, Loc(0), Num(room-2))))), nil, 9, exits(0, 1, 0))
	runs(t, "behind the last byte", p(Set(0, Row(Bits, Num(room))), Emit(Num(1)), Set(1, Elem(ToYes, Loc(0), Num(room)))), nil, 9, panics(api.PanicIndex, 1))
	runs(t, "a byte of data less", p(Emit(Length(Str("a"))), Set(0, Row(Bits, Num(room-8))), Emit(Num(2)), Set(0, Row(Bits, Num(1)))), nil, 9, resource(1, 2))
	runs(t, "a text goes ahead", p(Emit(Length(Str("a"))), Set(0, Row(Bits, Num(room-7)))), nil, 9, resource(1))
	runs(t, "an end at the heap's end", p(Set(0, Slice(Row(Bits, Num(room)), Num(room), Num(room))), Emit(Length(Loc(0)))), nil, 9, exits(0, 0))
}

// TestHeapByBlocks: as many blocks of 8 bytes as there is room for, and no more; each is apart.
func TestHeapByBlocks(t *testing.T) {
	const room = (api.MaxMemory - first) / 8
	count := Set(1, Bin(api.BinAdd, Loc(1), Num(1)))
	p := func(n int64) api.Program {
		return Alone([]int{ToNone, I64}, Loop(Set(0, Fresh(ToNone)), count, When(Compare(api.BinEq, Loc(1), Num(n)), Body(Ret(Loc(1))), nil)))
	}
	runs(t, "all", p(room), nil, api.MaxFuel, exits(room))
	runs(t, "one more", p(room+1), nil, api.MaxFuel, resource())
}

// TestMuchData: the data of as many and as long texts as may be, and the heap behind it.
func TestMuchData(t *testing.T) {
	var l []api.Stmt
	for i := range (api.MaxNodes - 8) / 3 {
		l = append(l, Emit(Length(Str(strings.Repeat(string(rune('a'+i%26)), api.MaxText)))))
	}
	n := len(l)
	l = append(l, Call(1, nil, Fresh(To64)), Ret(Num(0)))
	p := Program(Function(0, nil, []int{I64}, l...), Function(1, []int{To64}, nil, Ret()))
	r, e := source.Run(p, nil, api.MaxNodes)
	if e != api.OK || r.End != api.EndExit || len(r.Trace) != n || !slices.Equal(r.Calls[1].Args, words(uint64(api.DataBase+n*api.MaxText))) {
		t.Errorf("%d, %d, %d", r.End, len(r.Trace), e)
	}
}
