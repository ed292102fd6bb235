package source_test

import (
	"math"
	"slices"
	"strings"
	"testing"

	"gantry/api"
	"gantry/source"
)

// first is where the heap begins of a program without texts.
const first = api.DataBase

// TestLoadStore: ExprLoad, StmtStore: the words of values of all kinds, as they lie; new blocks are 0.
func TestLoadStore(t *testing.T) {
	x := made(mix, con(yes, 1), str("abc"), made(pair, con(u8, 250), num(-3)), con(u16, 65535), row(list, num(2)), made(none), con(i8, -5))
	for _, c := range []struct {
		k, to int
		x     api.Expr
	}{
		{i64, to64, num(math.MinInt64)}, {yes, toYes, con(yes, 1)}, {u8, toU8, con(u8, 255)}, {i16, toI16, con(i16, -2)}, {u32, toU32, con(u32, math.MaxUint32)}, {f64, toF64, float(otherNaN)}, {text, toText, str("abc")}, {pair, toPair, made(pair, con(u8, 1), num(-1))}, {none, toNone, made(none)}, {list, toList, row(list, num(5))}, {mix, toMix, x}, {to64, toTo, fresh(to64)}, {thin, toThin, made(thin, con(u8, 200), con(i16, -300), con(yes, 1), con(u8, 100), con(u32, 1<<32-2))},
	} {
		zero := handed(t, c.k, load(fresh(c.to)), nil)
		if len(zero) != len(handed(t, c.k, c.x, nil)) || slices.ContainsFunc(zero, func(w uint64) bool { return w != 0 }) {
			t.Errorf("%d: new: %d", c.k, zero)
		}
		want := handed(t, c.k, loc(1), []int{c.to, c.k}, set(1, c.x))
		got := handed(t, c.k, load(loc(0)), []int{c.to, c.k}, set(1, c.x), set(0, fresh(c.to)), store(loc(0), loc(1)))
		if !slices.Equal(got, want) {
			t.Errorf("%d: %d, not %d", c.k, got, want)
		}
		ends(t, "load", c.k, load(null(c.to)), panics(api.PanicNil))
		p := alone([]int{c.to}, emit(num(1)), store(loc(0), c.x), emit(num(2)), ret(num(0)))
		runs(t, "store", p, nil, 9, panics(api.PanicNil, 1))
	}
}

// TestStoreOrder: StmtStore: the pointer, then the value, then PanicNil.
func TestStoreOrder(t *testing.T) {
	zero, left := bin(api.BinDiv, num(1), num(0)), bin(api.BinShl, num(1), num(-1))
	for _, c := range []struct {
		p, x api.Expr
		want api.Run
	}{
		{null(to64), zero, panics(api.PanicDiv)}, {elem(to64, null(list), num(0)), zero, panics(api.PanicIndex)}, {addr(to64, 1, null(toPair)), left, panics(api.PanicNil)}, {null(to64), num(1), panics(api.PanicNil)}, {fresh(to64), left, panics(api.PanicShift)}, {null(to64), length(row(list, num(api.MaxMemory/8))), resource()},
	} {
		runs(t, "store", alone(nil, store(c.p, c.x), emit(num(2)), ret(num(0))), nil, 9, c.want)
	}
}

// TestAddr: ExprAddr: the pointer and the field's offset; stores to fields are loads of the whole.
func TestAddr(t *testing.T) {
	for i, want := range []uint64{0, 8} { // of pair: u8, i64
		if w := handed(t, []int{toU8, to64}[i], addr([]int{toU8, to64}[i], int64(i), fresh(toPair)), nil); !slices.Equal(w, words(first+want)) {
			t.Errorf("%d: %d", i, w)
		}
	}
	for n, c := range map[int64]struct {
		t    int
		want uint64
	}{0: {toU8, 0}, 1: {toArr, 8}, 2: {toNone, 32}, 3: {toI16, 32}} {
		if w := handed(t, c.t, addr(c.t, n, fresh(toHold)), nil); !slices.Equal(w, words(first+c.want)) {
			t.Errorf("%d: %d", n, w)
		}
		ends(t, "of nil", c.t, addr(c.t, n, null(toHold)), panics(api.PanicNil))
	}
	put := body(set(0, fresh(toMix)), store(addr(toText, 1, loc(0)), str("xyz")), store(addr(toPair, 2, loc(0)), made(pair, con(u8, 8), num(-9))), store(addr(toList, 4, loc(0)), row(list, num(6))), store(addr(toYes, 0, loc(0)), con(yes, 1)), store(addr(to64, 1, addr(toPair, 2, loc(0))), num(77)))
	want := words(1, api.DataBase, 3, 8, 77, 0, api.DataBase+8+72, 6, 0)
	if w := handed(t, mix, load(loc(0)), []int{toMix}, put...); !slices.Equal(w, want) {
		t.Errorf("%d, not %d", w, want)
	}
	if w := handed(t, toNone, addr(toNone, 5, fresh(toMix)), nil); !slices.Equal(w, words(first+64)) {
		t.Errorf("a field of nothing: %d", w)
	}
}

// TestFieldsAndWhole: a struct's words lie where its fields do, however small they are.
func TestFieldsAndWhole(t *testing.T) {
	x := made(thin, con(u8, 200), con(i16, -300), con(yes, 1), con(u8, 100), con(u32, 1<<32-2))
	want := words(200, minus(300), 1, 100, 1<<32-2)
	kinds := []int{toU8, toI16, toYes, toU8, toU32}
	put := body(set(0, row(thins, num(3))))
	for i, k := range kinds {
		at := addr(k, int64(i), elem(toThin, loc(0), num(1)))
		tells(t, "a field of what was stored", load(at), want[i], []int{thins}, append(put, store(elem(toThin, loc(0), num(1)), x))...)
		if w := handed(t, k, at, []int{thins}, put...); !slices.Equal(w, words(first+12+[]uint64{0, 2, 4, 5, 8}[i])) {
			t.Errorf("%d: %d", i, w)
		}
	}
	for i, k := range kinds {
		put = append(put, store(addr(k, int64(i), elem(toThin, loc(0), num(1))), field(int64(i), x)))
	}
	for i, want := range [][]uint64{make([]uint64, 5), want, make([]uint64, 5)} {
		if w := handed(t, thin, load(elem(toThin, loc(0), num(int64(i)))), []int{thins}, put...); !slices.Equal(w, want) {
			t.Errorf("%d: %d", i, w)
		}
	}
}

// TestPointers: BinEq, BinNe of pointers: by where they point to.
func TestPointers(t *testing.T) {
	put := body(set(0, fresh(toPair)), set(1, loc(0)), set(2, fresh(toPair)))
	locals := []int{toPair, toPair, toPair, toPair}
	for _, c := range []struct {
		x, y api.Expr
		want uint64
	}{
		{loc(0), loc(1), 1}, {loc(0), loc(2), 0}, {loc(3), null(toPair), 1}, {loc(0), null(toPair), 0}, {addr(to64, 1, loc(0)), addr(to64, 1, loc(1)), 1}, {addr(to64, 1, loc(0)), addr(to64, 1, loc(2)), 0}, {fresh(to64), fresh(to64), 0}, {fresh(toNone), fresh(toNone), 0},
	} {
		tells(t, "BinEq", compare(api.BinEq, c.x, c.y), c.want, locals, put...)
		tells(t, "BinNe", compare(api.BinNe, c.x, c.y), 1-c.want, locals, put...)
	}
}

// indices are indices of each kind, and whether each is from 0 to below 3.
func indices() map[bool][]api.Expr {
	l := map[bool][]api.Expr{}
	for _, k := range wholes() {
		l[true] = append(l[true], con(k, 0), con(k, 2))
		l[false] = append(l[false], con(k, 3), con(k, 4), con(k, greatest(k)))
		if isSigned(k) {
			l[false] = append(l[false], con(k, -1), con(k, least(k)))
		}
	}
	l[false] = append(l[false], con(u64, math.MinInt64), con(u64, math.MinInt64+2), con(u64, -1), con(u64, -3), con(i64, math.MinInt64+1))
	return l
}

// TestElem: ExprElem of slices and of arrays: where the element begins; PanicNil, PanicIndex.
func TestElem(t *testing.T) {
	for in, l := range indices() {
		for _, i := range l {
			for _, c := range []struct {
				k    int
				x    api.Expr
				size uint64
			}{
				{to64, row(list, num(3)), 8}, {to64, fresh(toArr), 8}, {toYes, row(bits, num(3)), 1}, {toI16, row(smalls, num(3)), 2}, {toMix, row(mixes, num(3)), 72}, {toNone, row(nones, num(3)), 0}, {toArr, row(arrs, num(3)), 24}, {toText, row(texts, num(3)), 16}, {toThin, row(thins, num(3)), 12},
			} {
				if !in {
					ends(t, "outside", c.k, elem(c.k, c.x, i), panics(api.PanicIndex))
				} else if w := handed(t, c.k, elem(c.k, c.x, i), nil); !slices.Equal(w, words(first+uint64(i.N)*c.size)) {
					t.Errorf("%d: %d", i.N, w)
				}
			}
			if !in {
				ends(t, "of a text", u8, index(str("abc"), i), panics(api.PanicIndex))
			} else {
				tells(t, "of a text", index(str("abc"), i), uint64("abc"[i.N]), nil)
			}
			ends(t, "of a nil slice", to64, elem(to64, null(list), i), panics(api.PanicIndex))
			ends(t, "of no array", to64, elem(to64, null(toArr), i), panics(api.PanicNil))
			ends(t, "of an array of none", to64, elem(to64, fresh(toNil0), i), panics(api.PanicIndex))
			ends(t, "of an empty text", u8, index(str(""), i), panics(api.PanicIndex))
		}
	}
	if w := handed(t, to64, elem(to64, elem(toArr, fresh(toGrid), num(1)), num(2)), nil); !slices.Equal(w, words(first+40)) {
		t.Errorf("an array's array: %d", w)
	}
	ends(t, "an array's array", to64, elem(to64, elem(toArr, fresh(toGrid), num(2)), num(0)), panics(api.PanicIndex))
	tells(t, "the last byte of an array", load(elem(toU8, fresh(toWide), con(u16, math.MaxUint16))), 0, nil)
	ends(t, "behind the last byte", toU8, elem(toU8, fresh(toWide), con(u32, api.MaxSize)), panics(api.PanicIndex))
}

// TestElements: what is stored into one element is there, and the others stay.
func TestElements(t *testing.T) {
	var put []api.Stmt
	for i := range int64(3) {
		put = append(put, store(elem(toI16, loc(0), num(i)), con(i16, -i-1)))
	}
	put = append(body(set(0, row(smalls, num(3)))), put...)
	put = append(put, store(elem(toI16, loc(0), con(u8, 1)), con(i16, 500)))
	for i, want := range []uint64{minus(1), 500, minus(3)} {
		tells(t, "an element", load(elem(toI16, loc(0), num(int64(i)))), want, []int{smalls}, put...)
	}
}

// TestSlice: ExprSlice: PanicSlice, unless 0 <= lo <= hi <= the length, by their own kinds; where it begins, how many.
func TestSlice(t *testing.T) {
	of := func(k int) api.Expr { return row(k, num(3)) }
	for lo := range int64(6) {
		for hi := range int64(6) {
			for i, k := range wholes() {
				a, b := con(k, lo-1), con(wholes()[(i+3)%8], hi-1)
				if lo == 0 && !isSigned(a.T) || hi == 0 && !isSigned(b.T) {
					continue
				}
				if lo < 1 || lo > hi || hi > 4 {
					ends(t, "bounds", list, slice(of(list), a, b), panics(api.PanicSlice))
					ends(t, "bounds of a text", text, slice(str("abc"), a, b), panics(api.PanicSlice))
					continue
				}
				for k, size := range map[int]uint64{list: 8, smalls: 2, bits: 1, mixes: 72, nones: 0, wides: 1 << 16} {
					if w := handed(t, k, slice(of(k), a, b), nil); !slices.Equal(w, words(first+uint64(lo-1)*size, uint64(hi-lo))) {
						t.Errorf("%d, %d, %d: %d", k, lo-1, hi-1, w)
					}
				}
				if w := handed(t, text, slice(str("abc"), a, b), nil); !slices.Equal(w, words(api.DataBase+uint64(lo-1), uint64(hi-lo))) {
					t.Errorf("of a text: %d, %d: %d", lo-1, hi-1, w)
				}
			}
		}
	}
	for _, far := range []api.Expr{con(u64, -1), con(u64, math.MinInt64), con(i64, math.MinInt64), con(u64, math.MaxInt64)} {
		ends(t, "far", list, slice(of(list), num(0), far), panics(api.PanicSlice))
		ends(t, "far", list, slice(of(list), far, num(3)), panics(api.PanicSlice))
		ends(t, "both far", list, slice(of(list), far, far), panics(api.PanicSlice))
	}
}

// TestSliceOfSlice: bounds are those of the part, not of what it was cut from; parts share their elements.
func TestSliceOfSlice(t *testing.T) {
	ends(t, "beyond the part", list, slice(slice(row(list, num(5)), num(1), num(3)), num(0), num(3)), panics(api.PanicSlice))
	if w := handed(t, list, slice(slice(row(list, num(5)), num(1), num(4)), num(1), num(2)), nil); !slices.Equal(w, words(first+16, 1)) {
		t.Errorf("%d", w)
	}
	if w := handed(t, list, slice(null(list), num(0), num(0)), nil); !slices.Equal(w, words(0, 0)) {
		t.Errorf("of nil: %d", w)
	}
	ends(t, "of nil", list, slice(null(list), num(0), num(1)), panics(api.PanicSlice))
	ends(t, "an index of a part", to64, elem(to64, slice(row(list, num(5)), num(1), num(3)), num(2)), panics(api.PanicIndex))
	put := body(set(0, row(list, num(5))), set(1, slice(loc(0), num(2), num(4))), store(elem(to64, loc(1), num(1)), num(66)))
	tells(t, "shared", load(elem(to64, loc(0), num(3))), 66, []int{list, list}, put...)
	tells(t, "a text's part", index(slice(str("abcdef"), num(2), num(5)), num(1)), 'd', nil)
}

// TestLen: ExprLen of slices and texts.
func TestLen(t *testing.T) {
	for n := range int64(5) {
		tells(t, "a slice", length(row(list, num(n))), uint64(n), nil)
		tells(t, "a slice of nothing", length(row(nones, num(n))), uint64(n), nil)
		tells(t, "a text", length(str("abcd"[:n])), uint64(n), nil)
		tells(t, "a part", length(slice(str("abcd"), num(n), num(4))), uint64(4-n), nil)
	}
	long := strings.Repeat("x", api.MaxText)
	tells(t, "the longest text", length(str(long)), api.MaxText, nil)
}

// TestBlocks: new blocks stand one behind the other, behind the data: multiples of 8, at least 8.
func TestBlocks(t *testing.T) {
	for n := range 18 {
		at := uint64(api.DataBase + (n+7)/8*8)
		if w := handed(t, to64, fresh(to64), nil, emit0(str("abcdefghijklmnopqr"[:n]))...); !slices.Equal(w, words(at)) {
			t.Errorf("data of %d: %d", n, w)
		}
	}
	for _, c := range []struct {
		k    int
		x    api.Expr
		want uint64
	}{
		{to64, fresh(to64), 8}, {toYes, fresh(toYes), 8}, {toNone, fresh(toNone), 8}, {toPair, fresh(toPair), 16}, {toMix, fresh(toMix), 72}, {toHold, fresh(toHold), 40}, {toArr, fresh(toArr), 24}, {toWide, fresh(toWide), 1 << 16}, {toNil0, fresh(toNil0), 8}, {toFull, fresh(toFull), 128}, {self, fresh(self), 8},
		{list, row(list, num(0)), 8}, {list, row(list, num(1)), 8}, {list, row(list, num(2)), 16}, {bits, row(bits, num(8)), 8}, {bits, row(bits, num(9)), 16}, {smalls, row(smalls, num(5)), 16}, {nones, row(nones, num(1000)), 8}, {mixes, row(mixes, con(u8, 3)), 216}, {wides, row(wides, con(i8, 2)), 1 << 17},
	} {
		w := handed(t, to64, fresh(to64), []int{c.k, c.k}, set(0, c.x), set(1, c.x))
		if !slices.Equal(w, words(first+2*c.want)) {
			t.Errorf("%d: %d", c.k, w)
		}
	}
	if w := handed(t, nones, row(nones, num(api.MaxMemory)), nil); !slices.Equal(w, words(first, api.MaxMemory)) {
		t.Errorf("as many as can be of nothing: %d", w)
	}
}

// TestMake: PanicMake, unless it is from 0 to MaxMemory, by its own kind, and so many elements have no more than MaxMemory bytes.
func TestMake(t *testing.T) {
	const most = api.MaxMemory
	for _, c := range []struct {
		t    int
		n    api.Expr
		want api.Run
	}{
		{list, num(-1), panics(api.PanicMake)}, {list, num(math.MinInt64), panics(api.PanicMake)}, {list, con(i8, -1), panics(api.PanicMake)}, {nones, con(i16, -1), panics(api.PanicMake)}, {list, con(u64, -1), panics(api.PanicMake)}, {list, con(u64, math.MinInt64), panics(api.PanicMake)}, {nones, con(u64, math.MinInt64), panics(api.PanicMake)}, {nones, con(u64, -1), panics(api.PanicMake)}, {list, num(1 << 61), panics(api.PanicMake)}, {list, num(1<<61 + 1), panics(api.PanicMake)}, {wides, num(1 << 48), panics(api.PanicMake)},
		{nones, num(most + 1), panics(api.PanicMake)}, {bits, num(most + 1), panics(api.PanicMake)}, {list, num(most/8 + 1), panics(api.PanicMake)}, {list, num(most), panics(api.PanicMake)}, {wides, num(17), panics(api.PanicMake)}, {mixes, num(most/72 + 1), panics(api.PanicMake)},
		{bits, num(most), resource()}, {list, num(most / 8), resource()}, {wides, num(16), resource()}, {mixes, con(u32, most/72), resource()},
		{bits, num(most - first + 1), resource()}, {list, num((most-first)/8 + 1), resource()},
	} {
		ends(t, "ExprMake", c.t, row(c.t, c.n), c.want)
	}
	for k, n := range map[int]int64{bits: most - first, list: (most - first) / 8, nones: most, wides: 15} {
		if w := handed(t, k, row(k, num(n)), nil); !slices.Equal(w, words(first, uint64(n))) {
			t.Errorf("%d: %d", k, w)
		}
	}
}

// TestHeapEnd: a heap that just fits, and one block more; its last byte is there.
func TestHeapEnd(t *testing.T) {
	const room = api.MaxMemory - first
	all := row(bits, num(room-8))
	locals := []int{bits, toYes, toNone}
	p := func(l ...api.Stmt) api.Program { return alone(locals, append(l, ret(num(0)))...) }
	runs(t, "just fits", p(set(0, all), set(1, fresh(toYes)), emit(num(1))), nil, 9, exits(0, 1))
	runs(t, "one more", p(set(0, all), set(1, fresh(toYes)), emit(num(1)), set(2, fresh(toNone))), nil, 9, resource(1))
	runs(t, "one more row", p(set(0, all), set(1, fresh(toYes)), emit(num(1)), set(0, row(bits, num(0)))), nil, 9, resource(1))
	runs(t, "the last byte", p(set(0, row(bits, num(room))), store(elem(toYes, loc(0), num(room-1)), con(yes, 1)), emit(load(elem(toYes, loc(0), num(room-1)))), emit(load(elem(toYes, loc(0), num(room-2))))), nil, 9, exits(0, 1, 0))
	runs(t, "behind the last byte", p(set(0, row(bits, num(room))), emit(num(1)), set(1, elem(toYes, loc(0), num(room)))), nil, 9, panics(api.PanicIndex, 1))
	runs(t, "a byte of data less", p(emit(length(str("a"))), set(0, row(bits, num(room-8))), emit(num(2)), set(0, row(bits, num(1)))), nil, 9, resource(1, 2))
	runs(t, "a text goes ahead", p(emit(length(str("a"))), set(0, row(bits, num(room-7)))), nil, 9, resource(1))
	runs(t, "an end at the heap's end", p(set(0, slice(row(bits, num(room)), num(room), num(room))), emit(length(loc(0)))), nil, 9, exits(0, 0))
}

// TestHeapByBlocks: as many blocks of 8 bytes as there is room for, and no more; each is apart.
func TestHeapByBlocks(t *testing.T) {
	const room = (api.MaxMemory - first) / 8
	count := set(1, bin(api.BinAdd, loc(1), num(1)))
	p := func(n int64) api.Program {
		return alone([]int{toNone, i64}, loop(set(0, fresh(toNone)), count, when(compare(api.BinEq, loc(1), num(n)), body(ret(loc(1))), nil)))
	}
	runs(t, "all", p(room), nil, api.MaxFuel, exits(room))
	runs(t, "one more", p(room+1), nil, api.MaxFuel, resource())
}

// TestMuchData: the data of as many and as long texts as may be, and the heap behind it.
func TestMuchData(t *testing.T) {
	var l []api.Stmt
	for i := range (api.MaxNodes - 8) / 3 {
		l = append(l, emit(length(str(strings.Repeat(string(rune('a'+i%26)), api.MaxText)))))
	}
	n := len(l)
	l = append(l, call(1, nil, fresh(to64)), ret(num(0)))
	p := program(function(0, nil, []int{i64}, l...), function(1, []int{to64}, nil, ret()))
	r, e := source.Run(p, nil, api.MaxNodes)
	if e != api.OK || r.End != api.EndExit || len(r.Trace) != n || !slices.Equal(r.Calls[1].Args, words(uint64(api.DataBase+n*api.MaxText))) {
		t.Errorf("%d, %d, %d", r.End, len(r.Trace), e)
	}
}
