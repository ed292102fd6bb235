package types

import (
	"slices"
	"testing"

	"gantry/api"
)

func of(kind int) api.Type { return api.Type{Kind: kind} }

func structure(fields ...int) api.Type { return api.Type{Kind: api.TypeStruct, Fields: fields} }

func arrayOf(n, elem int) api.Type { return api.Type{Kind: api.TypeArray, Elem: elem, N: n} }

func ptrTo(elem int) api.Type { return api.Type{Kind: api.KindPtr, Elem: elem} }

func sliceOf(elem int) api.Type { return api.Type{Kind: api.TypeSlice, Elem: elem} }

// many tells n times x.
func many(n, x int) []int { return slices.Repeat([]int{x}, n) }

// told is all that the calls tell of one entry.
type told struct {
	size, align int
	offsets     []int
	value       bool
	kinds, at   []int
}

// ask tells what the calls tell of an entry, and holds their errors against what may be.
func ask(t *testing.T, l []api.Type, i int) (x told) {
	t.Helper()
	var e [4]api.Errno
	x.size, e[0] = Size(l, i)
	x.align, e[1] = Align(l, i)
	x.value, e[2] = Value(l, i)
	x.kinds, x.at, e[3] = Words(l, i)
	want := [4]api.Errno{}
	if !x.value {
		want[3] = api.ErrTypeForm
	}
	if e != want {
		t.Errorf("entry %d of %+v: errors %d, not %d", i, l, e, want)
	}
	for f := range l[i].Fields {
		at, e := Offset(l, i, f)
		if e != api.OK {
			t.Errorf("entry %d of %+v, field %d: %d", i, l, f, e)
		}
		x.offsets = append(x.offsets, at)
	}
	for _, f := range []int{-1, len(l[i].Fields), len(l[i].Fields) + 1, 1 << 40, -1 << 63} {
		if at, e := Offset(l, i, f); at != 0 || e != api.ErrTypeForm {
			t.Errorf("entry %d of %+v has no field %d: %d, %d", i, l, f, at, e)
		}
	}
	return x
}

func equal(x, y told) bool {
	return x.size == y.size && x.align == y.align && x.value == y.value && slices.Equal(x.offsets, y.offsets) && slices.Equal(x.kinds, y.kinds) && slices.Equal(x.at, y.at)
}

func holds(t *testing.T, l []api.Type, want []told) {
	t.Helper()
	if e := Check(l); e != api.OK {
		t.Fatalf("Check: %d", e)
	}
	if len(l) != len(want) {
		t.Fatalf("%d entries, %d answers", len(l), len(want))
	}
	for i, w := range want {
		if x := ask(t, l, i); !equal(x, w) {
			t.Errorf("entry %d, %+v:\n%+v, not\n%+v", i, l[i], x, w)
		}
	}
}

// TestScalars: P7.1, P7.2: each kind of a word.
func TestScalars(t *testing.T) {
	var l []api.Type
	var want []told
	for k, n := range []int{0, 1, 1, 2, 4, 8, 1, 2, 4, 8, 8, 8} {
		if k > 0 {
			l = append(l, of(k))
			want = append(want, told{n, n, nil, true, []int{k}, []int{0}})
		}
	}
	holds(t, l, want)
}

// TestExamples: P7.2: the chapter's own.
func TestExamples(t *testing.T) {
	const u8, u16, i64, bit = api.KindU8, api.KindU16, api.KindI64, api.KindBool
	l := []api.Type{of(u8), of(i64), structure(0, 1, 0), of(api.TypeString), of(bit), structure(3, 4), of(u16), arrayOf(3, 6), structure()}
	holds(t, l, []told{
		{1, 1, nil, true, []int{u8}, []int{0}},
		{8, 8, nil, true, []int{i64}, []int{0}},
		{24, 8, []int{0, 8, 16}, true, []int{u8, i64, u8}, []int{0, 8, 16}},
		{16, 8, nil, true, []int{api.KindPtr, i64}, []int{0, 8}},
		{1, 1, nil, true, []int{bit}, []int{0}},
		{24, 8, []int{0, 16}, true, []int{api.KindPtr, i64, bit}, []int{0, 8, 16}},
		{2, 2, nil, true, []int{u16}, []int{0}},
		{6, 2, nil, false, nil, nil},
		{0, 1, nil, true, nil, nil},
	})
}

// TestWithin: P7.2: structs within structs, arrays of arrays, arrays in structs, pointers and slices to whatever.
func TestWithin(t *testing.T) {
	const u8, u16, u32, i64, f64, ptr = api.KindU8, api.KindU16, api.KindU32, api.KindI64, api.KindF64, api.KindPtr
	l := []api.Type{
		of(u8), of(u16), of(u32), of(f64),
		structure(1, 0),       // 4: 2, 1, and one to round up
		structure(0, 4, 0),    // 5
		structure(5, 3, 5),    // 6
		arrayOf(3, 4),         // 7
		arrayOf(2, 7),         // 8: array of arrays
		structure(0, 8, 2),    // 9
		ptrTo(9),              // 10: to no value's type, yet one itself
		sliceOf(14),           // 11: of what stands behind it
		structure(0, 11, 10),  // 12
		ptrTo(13),             // 13: to itself
		structure(13, 12, 0),  // 14
		sliceOf(15),           // 15: of itself
		structure(0, 9),       // 16: an array deep in it
		structure(1, 0, 0, 2), // 17
		ptrTo(19),             // 18: to the last
		arrayOf(1, 2),         // 19
	}
	holds(t, l, []told{
		{1, 1, nil, true, []int{u8}, []int{0}},
		{2, 2, nil, true, []int{u16}, []int{0}},
		{4, 4, nil, true, []int{u32}, []int{0}},
		{8, 8, nil, true, []int{f64}, []int{0}},
		{4, 2, []int{0, 2}, true, []int{u16, u8}, []int{0, 2}},
		{8, 2, []int{0, 2, 6}, true, []int{u8, u16, u8, u8}, []int{0, 2, 4, 6}},
		{24, 8, []int{0, 8, 16}, true, []int{u8, u16, u8, u8, f64, u8, u16, u8, u8}, []int{0, 2, 4, 6, 8, 16, 18, 20, 22}},
		{12, 2, nil, false, nil, nil},
		{24, 2, nil, false, nil, nil},
		{32, 4, []int{0, 2, 28}, false, nil, nil},
		{8, 8, nil, true, []int{ptr}, []int{0}},
		{16, 8, nil, true, []int{ptr, i64}, []int{0, 8}},
		{32, 8, []int{0, 8, 24}, true, []int{u8, ptr, i64, ptr}, []int{0, 8, 16, 24}},
		{8, 8, nil, true, []int{ptr}, []int{0}},
		{48, 8, []int{0, 8, 40}, true, []int{ptr, u8, ptr, i64, ptr, u8}, []int{0, 8, 16, 24, 32, 40}},
		{16, 8, nil, true, []int{ptr, i64}, []int{0, 8}},
		{36, 4, []int{0, 4}, false, nil, nil},
		{8, 4, []int{0, 2, 3, 4}, true, []int{u16, u8, u8, u32}, []int{0, 2, 3, 4}},
		{8, 8, nil, true, []int{ptr}, []int{0}},
		{4, 4, nil, false, nil, nil},
	})
}

// TestNothing: P7.2: a struct and an array of nothing, which has its element's alignment yet; both in structs.
func TestNothing(t *testing.T) {
	const u8, i64 = api.KindU8, api.KindI64
	l := []api.Type{
		of(u8), of(i64),
		structure(),
		arrayOf(0, 1),           // 3
		arrayOf(0, 2),           // 4
		arrayOf(api.MaxSize, 2), // 5
		structure(2, 2),         // 6
		structure(0, 2, 0, 2),   // 7
		structure(3),            // 8
		structure(0, 3),         // 9
		structure(0, 8, 0),      // 10
		arrayOf(5, 8),           // 11
		structure(0, 4, 0),      // 12
	}
	holds(t, l, []told{
		{1, 1, nil, true, []int{u8}, []int{0}},
		{8, 8, nil, true, []int{i64}, []int{0}},
		{0, 1, nil, true, nil, nil},
		{0, 8, nil, false, nil, nil},
		{0, 1, nil, false, nil, nil},
		{0, 1, nil, false, nil, nil},
		{0, 1, []int{0, 0}, true, nil, nil},
		{2, 1, []int{0, 1, 1, 2}, true, []int{u8, u8}, []int{0, 1}},
		{0, 8, []int{0}, false, nil, nil},
		{8, 8, []int{0, 8}, false, nil, nil},
		{16, 8, []int{0, 8, 8}, false, nil, nil},
		{0, 8, nil, false, nil, nil},
		{2, 1, []int{0, 1, 1}, false, nil, nil},
	})
}

// TestMaxWords: P7.2: as many words as can be, and one more, by scalars, by strings and slices, by structs within.
func TestMaxWords(t *testing.T) {
	const most = api.MaxWords
	l := []api.Type{
		of(api.KindI8), of(api.TypeString), sliceOf(0),
		structure(many(most, 0)...),                       // 3
		structure(3, 0),                                   // 4: one more
		structure(many(most/2, 1)...),                     // 5
		structure(append(many(most/2, 2), 0)...),          // 6: one more
		structure(append(many(most-2, 0), 1)...),          // 7
		structure(append(many(most-1, 0), 2)...),          // 8: one more, of a slice's two
		structure(),                                       // 9
		structure(9, 3, 9, 9),                             // 10
		structure(many(most/4, 0)...),                     // 11
		structure(many(4, 11)...),                         // 12
		structure(12, 9),                                  // 13
		structure(many(most, 3)...),                       // 14: far more
		structure(many(most, 14)...),                      // 15
		structure(many(most, 15)...),                      // 16: as large as can be
		ptrTo(16),                                         // 17
		structure(append(many(most/2-1, 2), 17, 9, 0)...), // 18
	}
	if size, e := Size(l, 16); size != api.MaxSize || e != api.OK {
		t.Errorf("as large as can be: %d, %d", size, e)
	}
	for i, n := range []int{1, 2, 2, most, 0, most, 0, most, 0, 0, most, most / 4, most, most, 0, 0, 0, 1, most} {
		x := ask(t, l, i)
		if is := n > 0 || i == 9; x.value != is || len(x.kinds) != n || len(x.at) != n {
			t.Errorf("entry %d: %+v, not %d words", i, x, n)
		}
	}
	if kinds, at, _ := Words(l, 18); !slices.Equal(kinds[10:], []int{api.KindPtr, api.KindI64, api.KindPtr, api.KindI64, api.KindPtr, api.KindI8}) || !slices.Equal(at[10:], []int{80, 88, 96, 104, 112, 120}) {
		t.Errorf("%d, %d", kinds, at)
	}
}

// TestManyWays: P7.2, R1: few entries that have one another in more ways than could be gone through: with nothing in them, and with one word behind all of that.
func TestManyWays(t *testing.T) {
	l := []api.Type{of(api.KindU16), structure(), arrayOf(0, 0)}
	nothing, none := 1, 2
	for len(l)+3 < api.MaxTypes {
		l = append(l, structure(many(api.MaxFields, nothing)...), structure(many(api.MaxFields, none)...))
		nothing, none = len(l)-2, len(l)-1
	}
	word := structure(append(many(api.MaxFields-1, nothing), 0)...)
	word.Fields[3] = 0
	l = append(l, word, structure(nothing, len(l), nothing))
	if e := Check(l); e != api.OK {
		t.Fatal(e)
	}
	if x := ask(t, l, nothing); !equal(x, told{0, 1, many(api.MaxFields, 0), true, nil, nil}) {
		t.Errorf("of nothing: %+v", x)
	}
	if x := ask(t, l, none); !equal(x, told{0, 2, many(api.MaxFields, 0), false, nil, nil}) {
		t.Errorf("of arrays of nothing: %+v", x)
	}
	if x := ask(t, l, len(l)-1); !equal(x, told{4, 2, []int{0, 0, 4}, true, []int{api.KindU16, api.KindU16}, []int{0, 2}}) {
		t.Errorf("of two words: %+v", x)
	}
}
