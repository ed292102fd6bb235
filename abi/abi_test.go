package abi

import (
	"slices"
	"testing"

	"gantry/api"
)

// Entries of the table that most tests take; sized tells one of so many words.
const (
	i64 = api.MaxWords + 1 + iota
	bit
	f64
	text
	list
	pointer
	mixed  // struct of bool, string, f64
	within // struct of mixed, nothing, pointer
	array
	holder // struct with an array in it
	wide   // struct of one word too many
	toWide // pointer to it
	ofRows // slice of arrays
	entries
)

// table tells one whose entry n, up to MaxWords, is a struct of n words.
func table() (l []api.Type) {
	l = make([]api.Type, entries)
	l[0] = structure()
	l[1] = of(api.KindU8) // structs of words stand behind their word
	for n := 2; n <= api.MaxWords; n++ {
		l[n] = structure(many(n, 1)...)
	}
	l[i64], l[bit], l[f64], l[text] = of(api.KindI64), of(api.KindBool), of(api.KindF64), of(api.TypeString)
	l[list], l[pointer] = api.Type{Kind: api.TypeSlice, Elem: holder}, api.Type{Kind: api.KindPtr, Elem: within}
	l[mixed], l[within] = structure(bit, text, f64), structure(mixed, 0, pointer)
	l[array] = api.Type{Kind: api.TypeArray, Elem: i64, N: 1}
	l[holder], l[wide] = structure(i64, array), structure(api.MaxWords, bit)
	l[toWide], l[ofRows] = api.Type{Kind: api.KindPtr, Elem: wide}, api.Type{Kind: api.TypeSlice, Elem: array}
	return l
}

func of(kind int) api.Type { return api.Type{Kind: kind} }

func structure(fields ...int) api.Type { return api.Type{Kind: api.TypeStruct, Fields: fields} }

// many tells n times x.
func many(n, x int) []int { return slices.Repeat([]int{x}, n) }

// regs, stack tell n places one behind the other, from the first on.
func regs(first, n int) (l []api.Place) {
	for i := range n {
		l = append(l, api.Place{N: first + i})
	}
	return l
}

func stack(first, n int) (l []api.Place) {
	for i := range n {
		l = append(l, api.Place{Stack: true, N: first + i})
	}
	return l
}

func join(l ...[]api.Place) []api.Place { return slices.Concat(l...) }

func equal(x, y api.Assign) bool {
	return slices.Equal(x.Args, y.Args) && slices.Equal(x.Results, y.Results) && x.Slots == y.Slots
}

func holds(t *testing.T, l []api.Type, params, results []int, want api.Assign) {
	t.Helper()
	if a, e := Places(l, params, results); e != api.OK || !equal(a, want) {
		t.Errorf("%d, %d: %+v, %d, not %+v", params, results, a, e, want)
	}
}

// TestExample: P11.1: the chapter's own.
func TestExample(t *testing.T) {
	want := api.Assign{Args: join(regs(0, 3), stack(0, 5), regs(3, 1)), Results: regs(0, 2), Slots: 5}
	holds(t, table(), []int{i64, text, 5, bit}, []int{i64, i64}, want)
	l := []api.Type{of(api.KindI64), of(api.TypeString), structure(0, 0, 0, 0, 0), of(api.KindBool)}
	holds(t, l, []int{0, 1, 2, 3}, []int{0, 0}, want)
}

// TestOne: P11.1: one parameter, one result, of each kind of type.
func TestOne(t *testing.T) {
	l := table()
	for _, c := range [][2]int{{0, 0}, {1, 1}, {2, 2}, {6, 6}, {i64, 1}, {bit, 1}, {f64, 1}, {text, 2}, {list, 2}, {pointer, 1}, {mixed, 4}, {within, 5}, {toWide, 1}, {ofRows, 2}} {
		i, words := c[0], c[1]
		holds(t, l, []int{i}, nil, api.Assign{Args: regs(0, words)})
		holds(t, l, nil, []int{i}, api.Assign{Results: regs(0, words)})
		holds(t, l, []int{i}, []int{i}, api.Assign{Args: regs(0, words), Results: regs(0, words)})
	}
	for n := api.ArgRegs + 1; n <= api.MaxWords; n++ {
		holds(t, l, []int{n}, nil, api.Assign{Args: stack(0, n), Slots: n})
		holds(t, l, nil, []int{n}, api.Assign{Results: stack(0, n), Slots: n})
		holds(t, l, []int{n}, []int{n}, api.Assign{Args: stack(0, n), Results: stack(n, n), Slots: 2 * n})
	}
	for k := api.KindBool; k <= api.KindPtr; k++ {
		holds(t, []api.Type{of(k)}, many(2, 0), many(3, 0), api.Assign{Args: regs(0, 2), Results: regs(0, 3)})
	}
}

// TestNone: P11.1: no parameters, no results, be the lists nil or empty; those of no words; and no entries at all.
func TestNone(t *testing.T) {
	for _, l := range [][]api.Type{nil, {}, table()} {
		for _, params := range [][]int{nil, {}} {
			for _, results := range [][]int{nil, {}} {
				holds(t, l, params, results, api.Assign{})
			}
		}
	}
	l := table()
	for n := range api.MaxParams + 1 {
		holds(t, l, many(n, 0), many(api.MaxParams-n, 0), api.Assign{})
	}
	holds(t, l, []int{0, i64, 0, text, 0}, []int{0, 0, bit}, api.Assign{Args: regs(0, 3), Results: regs(0, 1)})
	holds(t, l, []int{6, 0, 1, 0, 0}, []int{6, 0}, api.Assign{Args: join(regs(0, 6), stack(0, 1)), Results: regs(0, 6), Slots: 1})
	holds(t, l, []int{0, 7, 0, 1}, []int{0, 7, 0, 2}, api.Assign{Args: join(stack(0, 7), regs(0, 1)), Results: join(stack(7, 7), regs(0, 2)), Slots: 14})
}

// TestFits: P11.1: so many registers taken, and a value of each number of words next: those that just fit, one word more, and all others; a later one finds what is left.
func TestFits(t *testing.T) {
	l := table()
	for taken := range api.ArgRegs + 1 {
		for n := range api.MaxWords + 1 {
			places, next, slot := join(regs(0, taken), regs(taken, n)), taken+n, 0
			if taken+n > api.ArgRegs {
				places, next, slot = join(regs(0, taken), stack(0, n)), taken, n
			}
			values := []int{taken, n}
			holds(t, l, values, nil, api.Assign{Args: places, Slots: slot})
			holds(t, l, nil, values, api.Assign{Results: places, Slots: slot})
			values = []int{taken, n, 1}
			if next < api.ArgRegs {
				places = join(places, regs(next, 1))
			} else {
				places, slot = join(places, stack(slot, 1)), slot+1
			}
			holds(t, l, values, nil, api.Assign{Args: places, Slots: slot})
			holds(t, l, nil, values, api.Assign{Results: places, Slots: slot})
		}
	}
}

// TestLater: P11.1: behind a value on the stack later ones find registers, and the stack goes on where it was.
func TestLater(t *testing.T) {
	l := table()
	holds(t, l, []int{5, text, i64, bit, 0, f64}, nil, api.Assign{Args: join(regs(0, 5), stack(0, 2), regs(5, 1), stack(2, 1), stack(3, 1)), Slots: 4})
	holds(t, l, []int{7, 4, 3, list, pointer}, nil, api.Assign{Args: join(stack(0, 7), regs(0, 4), stack(7, 3), regs(4, 2), stack(10, 1)), Slots: 11})
	holds(t, l, []int{16, 16, 6, 16, 1}, nil, api.Assign{Args: join(stack(0, 16), stack(16, 16), regs(0, 6), stack(32, 16), stack(48, 1)), Slots: 49})
	holds(t, l, []int{within, text, pointer, bit}, []int{mixed, mixed, text}, api.Assign{Args: join(regs(0, 5), stack(0, 2), regs(5, 1), stack(2, 1)), Results: join(regs(0, 4), stack(3, 4), regs(4, 2)), Slots: 7})
}

// TestResults: P11.1: results have register 0 again, whatever the parameters took; their slots come behind the parameters'.
func TestResults(t *testing.T) {
	l := table()
	for n := range api.MaxWords + 1 {
		args, slot := regs(0, n), 0
		if n > api.ArgRegs {
			args, slot = stack(0, n), n
		}
		holds(t, l, []int{n}, []int{i64, text}, api.Assign{Args: args, Results: regs(0, 3), Slots: slot})
		holds(t, l, []int{n}, []int{i64, 6, text, 7}, api.Assign{Args: args, Results: join(regs(0, 1), stack(slot, 6), regs(1, 2), stack(slot+6, 7)), Slots: slot + 13})
		holds(t, l, []int{n, 8}, []int{8}, api.Assign{Args: join(args, stack(slot, 8)), Results: stack(slot+8, 8), Slots: slot + 16})
	}
}

// TestMaxParams: P11.1: as many of either as can be, of one word, of two, of as many words as can be.
func TestMaxParams(t *testing.T) {
	l := table()
	const most = api.MaxParams
	ones := join(regs(0, 6), stack(0, 2))
	holds(t, l, many(most, i64), nil, api.Assign{Args: ones, Slots: 2})
	holds(t, l, nil, many(most, i64), api.Assign{Results: ones, Slots: 2})
	holds(t, l, many(most, i64), many(most, bit), api.Assign{Args: ones, Results: join(regs(0, 6), stack(2, 2)), Slots: 4})
	holds(t, l, many(most, text), many(most, list), api.Assign{Args: join(regs(0, 6), stack(0, 10)), Results: join(regs(0, 6), stack(10, 10)), Slots: 20})
	const words = most * api.MaxWords
	holds(t, l, many(most, api.MaxWords), many(most, api.MaxWords), api.Assign{Args: stack(0, words), Results: stack(words, words), Slots: 2 * words})
}
