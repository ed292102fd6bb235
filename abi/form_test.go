package abi

import (
	"slices"
	"testing"

	"gantry/api"
)

// refused holds the error, and what stands beside it against the zero value.
func refused(t *testing.T, name string, want api.Errno, l []api.Type, params, results []int) {
	t.Helper()
	a, e := Places(l, params, results)
	if e != want {
		t.Errorf("%s: %d, %d: %d, not %d", name, params, results, e, want)
	}
	if a.Args != nil || a.Results != nil || a.Slots != 0 {
		t.Errorf("%s: %d, %d: beside an error: %+v", name, params, results, a)
	}
}

// wrongs tells numbers that are no value's type in table().
func wrongs() []int {
	return []int{array, holder, wide, -1, entries, entries + 1, 1 << 32, 1 << 40, -1 << 63, 1<<63 - 1}
}

// TestNoValue: P11.1: a number that is no entry, an entry that is no value's type, at each place among others.
func TestNoValue(t *testing.T) {
	l := table()
	fine := []int{i64, text, 0, 7, mixed, pointer, 16, bit}
	for _, wrong := range wrongs() {
		for n := range api.MaxParams {
			both := slices.Clone(fine)
			both[n] = wrong
			refused(t, "a parameter", api.ErrABIForm, l, both, nil)
			refused(t, "a parameter", api.ErrABIForm, l, both[:n+1], fine)
			refused(t, "a result", api.ErrABIForm, l, nil, both)
			refused(t, "a result", api.ErrABIForm, l, fine, both[n:])
			refused(t, "both", api.ErrABIForm, l, both, both)
		}
	}
	refused(t, "of no entries", api.ErrABIForm, nil, []int{0}, nil)
	refused(t, "of no entries", api.ErrABIForm, nil, nil, []int{0})
	for _, i := range []int{toWide, ofRows, list, pointer} {
		if _, e := Places(l, []int{i}, []int{i}); e != api.OK {
			t.Errorf("what is behind the pointer of %d counts: %d", i, e)
		}
	}
}

// TestTooMany: P11.1: more than MaxParams of either, even if they have no words.
func TestTooMany(t *testing.T) {
	l := table()
	for _, i := range []int{0, i64, text, 16, array, -1} {
		for _, n := range []int{api.MaxParams + 1, api.MaxParams + 2, 1000, 1 << 16} {
			refused(t, "parameters", api.ErrABIForm, l, many(n, i), nil)
			refused(t, "results", api.ErrABIForm, l, nil, many(n, i))
			refused(t, "parameters", api.ErrABIForm, l, many(n, i), many(api.MaxParams, 0))
			refused(t, "results", api.ErrABIForm, l, many(api.MaxParams, 0), many(n, i))
			refused(t, "both", api.ErrABIForm, l, many(n, i), many(n, i))
		}
	}
}

// TestNoTable: P11.1, R4: types' errors, and they go ahead of whatever is wrong with parameters and results.
func TestNoTable(t *testing.T) {
	large := append(table(), api.Type{Kind: api.TypeArray, Elem: i64, N: api.MaxSize})
	formless := append(table(), of(0))
	ahead := append(table(), structure(entries))
	var full []api.Type
	for range api.MaxTypes + 1 {
		full = append(full, of(api.KindU8))
	}
	lists := [][]int{nil, {i64}, {text, 16}, {array}, {wide}, {-1}, {entries}, {1 << 40}, many(api.MaxParams+1, 0), many(api.MaxParams+1, -1)}
	for _, params := range lists {
		for _, results := range lists {
			refused(t, "large", api.ErrTypeLarge, large, params, results)
			refused(t, "no kind", api.ErrTypeForm, formless, params, results)
			refused(t, "a struct of itself", api.ErrTypeForm, ahead, params, results)
			refused(t, "too many entries", api.ErrTypeForm, full, params, results)
			refused(t, "large, and no kind", api.ErrTypeForm, append(large, of(0)), params, results)
		}
	}
	if a, e := Places(full[:api.MaxTypes], []int{api.MaxTypes - 1}, nil); e != api.OK || !equal(a, api.Assign{Args: regs(0, 1)}) {
		t.Errorf("as many entries as can be: %+v, %d", a, e)
	}
}
