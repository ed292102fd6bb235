package types

import (
	"testing"

	"gantry/api"
)

// refused holds each call against an error, and what stands beside it against zero values.
func refused(t *testing.T, name string, want api.Errno, l []api.Type, i int) {
	t.Helper()
	size, e1 := Size(l, i)
	align, e2 := Align(l, i)
	at, e3 := Offset(l, i, 0)
	kinds, offsets, e4 := Words(l, i)
	value, e5 := Value(l, i)
	if e1 != want || e2 != want || e3 != want || e4 != want || e5 != want {
		t.Errorf("%s: %d, %d, %d, %d, %d, not %d", name, e1, e2, e3, e4, e5, want)
	}
	if size != 0 || align != 0 || at != 0 || kinds != nil || offsets != nil || value {
		t.Errorf("%s: beside an error: %d, %d, %d, %d, %d, %v", name, size, align, at, kinds, offsets, value)
	}
}

// noTable holds every call against an error that is the whole table's.
func noTable(t *testing.T, name string, want api.Errno, l []api.Type) {
	t.Helper()
	if e := Check(l); e != want {
		t.Errorf("%s: Check: %d, not %d", name, e, want)
	}
	for _, i := range []int{-1, 0, len(l) - 1, len(l), 1 << 40} {
		refused(t, name, want, l, i)
	}
}

// TestNoEntry: P7.1: each kind of entry with each thing wrong, alone, ahead of and behind entries that are fine.
func TestNoEntry(t *testing.T) {
	const at = 2 // where the wrong one stands, of 5
	fields := []int{0}
	l := []api.Type{of(-1), of(0), of(16), of(1 << 40), of(-1 << 63), of(api.KindBool | 1<<32)}
	for k := api.KindBool; k <= api.TypeString; k++ {
		x := of(k)
		if k != api.TypeStruct {
			x.Fields = fields
			l = append(l, x)
			x.Fields = nil
		}
		if k != api.TypeArray {
			l = append(l, api.Type{Kind: k, N: 1}, api.Type{Kind: k, N: -1})
		}
		switch k {
		case api.KindPtr, api.TypeSlice:
			l = append(l, api.Type{Kind: k, Elem: -1}, api.Type{Kind: k, Elem: 5}, api.Type{Kind: k, Elem: 1 << 40})
		case api.TypeArray:
			l = append(l, arrayOf(1, -1), arrayOf(1, at), arrayOf(1, at+1), arrayOf(0, at), arrayOf(1, 5), arrayOf(-1, 0), arrayOf(api.MaxSize+1, 0), arrayOf(1<<62, 0), arrayOf(-1<<63, 0))
		case api.TypeStruct:
			l = append(l, structure(-1), structure(at), structure(0, 1, at), structure(0, at+1, 0), structure(5), structure(many(api.MaxFields+1, 0)...), structure(many(300, 0)...), structure(1<<40))
			fallthrough
		default:
			l = append(l, api.Type{Kind: k, Elem: 1}, api.Type{Kind: k, Elem: -1})
		}
	}
	for _, wrong := range l {
		table := []api.Type{of(api.KindU8), structure(0), wrong, of(api.TypeString), arrayOf(2, 1)}
		noTable(t, "in a table", api.ErrTypeForm, table)
		noTable(t, "as the last", api.ErrTypeForm, table[:at+1])
		if wrong.Kind < api.TypeArray || wrong.Kind > api.TypeStruct {
			noTable(t, "alone", api.ErrTypeForm, []api.Type{wrong})
		}
	}
	noTable(t, "an array of itself", api.ErrTypeForm, []api.Type{arrayOf(0, 0)})
	noTable(t, "a struct of itself", api.ErrTypeForm, []api.Type{structure(0)})
	noTable(t, "one of the other", api.ErrTypeForm, []api.Type{structure(1), structure(0)})
}

// TestTable: P7.1: how many entries and fields there may be; the entry that is asked for.
func TestTable(t *testing.T) {
	for _, l := range [][]api.Type{nil, {}} {
		if e := Check(l); e != api.OK {
			t.Errorf("no entries: %d", e)
		}
		refused(t, "entry of none", api.ErrTypeForm, l, 0)
	}
	var l []api.Type
	for range api.MaxTypes {
		l = append(l, of(api.TypeString))
	}
	l[0], l[7] = of(api.KindU8), structure(many(api.MaxFields, 0)...)
	l[8], l[9] = api.Type{Kind: api.TypeString, Fields: []int{}}, api.Type{Kind: api.TypeStruct, Fields: []int{}}
	l[10], l[11], l[12] = ptrTo(api.MaxTypes-1), sliceOf(api.MaxTypes-1), ptrTo(10)
	l[api.MaxTypes-1] = structure(api.MaxTypes - 2)
	if e := Check(l); e != api.OK {
		t.Errorf("as many entries as can be: %d", e)
	}
	for i := range l {
		ask(t, l, i)
	}
	for _, i := range []int{-1, len(l), len(l) + 1, 1 << 40, -1 << 63} {
		refused(t, "no entry's number", api.ErrTypeForm, l, i)
	}
	noTable(t, "one more", api.ErrTypeForm, append(l, of(api.KindU8)))
	noTable(t, "far more", api.ErrTypeForm, make([]api.Type, 1000))
}

// TestLarge: P7.1: bytes up to MaxSize and beyond, by an array, by fields, by an alignment, by rounding up; and what would wrap round.
func TestLarge(t *testing.T) {
	const most = api.MaxSize
	u8, i64 := of(api.KindU8), of(api.KindI64)
	for n, c := range []struct {
		last, large api.Type
		between     []api.Type
	}{
		{arrayOf(most, 0), structure(2, 0), nil},
		{arrayOf(most/8, 1), arrayOf(most/8+1, 1), nil},
		{arrayOf(256, 2), arrayOf(257, 2), []api.Type{arrayOf(256, 0)}},
		{arrayOf(256, 2), arrayOf(256, 3), []api.Type{arrayOf(256, 0)}},
		{structure(2, 0), structure(2, 0, 0), []api.Type{arrayOf(most-1, 0)}},
		{structure(2, 1), structure(2, 0, 1), []api.Type{arrayOf(most-8, 0)}},
		{structure(1, 2), structure(1, 2, 0, 0), []api.Type{arrayOf(most-9, 0)}},
		{structure(0, 1, 2), structure(0, 1, 2, 0), []api.Type{arrayOf(most-16, 0)}},
		{arrayOf(1, 2), structure(3, 2), []api.Type{arrayOf(most, 0)}},
		{arrayOf(most/3, 2), arrayOf(most/3+1, 2), []api.Type{arrayOf(3, 0)}},
		{structure(many(16, 2)...), arrayOf(17, 2), []api.Type{arrayOf(most/16, 0)}},
	} {
		l := append([]api.Type{u8, i64}, c.between...)
		l = append(l, c.last)
		if e := Check(l); e != api.OK {
			t.Errorf("%d: as large as can be: %d", n, e)
		}
		size, _ := Size(l, len(l)-1)
		if size > most || size < most-1 {
			t.Errorf("%d: %d bytes", n, size)
		}
		noTable(t, "large", api.ErrTypeLarge, append(l, c.large))
		noTable(t, "large, others behind", api.ErrTypeLarge, append(l, c.large, u8, structure(0)))
		noTable(t, "an array with none of it", api.ErrTypeLarge, append(l, c.large, arrayOf(0, len(l))))
	}
	wraps := []api.Type{of(api.KindU16), arrayOf(most, 0)}
	for len(wraps) < api.MaxTypes {
		wraps = append(wraps, arrayOf(most, len(wraps)-1))
		noTable(t, "arrays of arrays", api.ErrTypeLarge, wraps)
	}
	wraps = []api.Type{of(api.KindU8)}
	for i := range api.MaxTypes - 1 {
		wraps = append(wraps, structure(many(api.MaxFields, i)...))
		if i < 4 {
			if e := Check(wraps); e != api.OK {
				t.Errorf("16^%d bytes: %d", i+1, e)
			}
			continue
		}
		noTable(t, "structs of structs", api.ErrTypeLarge, wraps)
	}
}

// TestFirst: P7.1, R4: what is wrong with the table's form goes ahead of a size, wherever both stand; the table's faults ahead of a number's.
func TestFirst(t *testing.T) {
	l := []api.Type{of(api.KindU8), arrayOf(api.MaxSize, 0), structure(1, 1), of(api.KindBool)}
	noTable(t, "large", api.ErrTypeLarge, l)
	for i := range l {
		for _, wrong := range []api.Type{of(0), structure(4), ptrTo(7)} {
			both := append([]api.Type{}, l...)
			both[i] = wrong
			noTable(t, "in one's place", api.ErrTypeForm, both)
		}
	}
	noTable(t, "behind it", api.ErrTypeForm, append(l, of(0)))
	var full []api.Type
	for range api.MaxTypes + 1 {
		full = append(full, of(api.KindU8))
	}
	full[1], full[2] = l[1], l[2]
	noTable(t, "too many", api.ErrTypeForm, full)
	noTable(t, "as many as can be", api.ErrTypeLarge, full[:api.MaxTypes])
}

// TestNoValue: P7.2: words of what is no value's type; Value tells it without an error.
func TestNoValue(t *testing.T) {
	l := []api.Type{of(api.KindU8), arrayOf(3, 0), structure(0, 1), structure(0, 2), structure(many(api.MaxWords, 0)...), structure(4, 0), structure(4, 1), arrayOf(0, 0), structure(7), ptrTo(1), sliceOf(1), structure(9, 10)}
	for i, want := range []bool{true, false, false, false, true, false, false, false, false, true, true, true} {
		if is, e := Value(l, i); is != want || e != api.OK {
			t.Errorf("entry %d: %v, %d", i, is, e)
		}
		kinds, offsets, e := Words(l, i)
		if !want && (e != api.ErrTypeForm || kinds != nil || offsets != nil) || want && (e != api.OK || len(kinds) == 0) {
			t.Errorf("entry %d: %d, %d, %d", i, kinds, offsets, e)
		}
	}
}
