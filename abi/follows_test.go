package abi

import (
	"slices"
	"testing"

	"gantry/api"
)

// turns tells numbers that look like any others, the same in each run.
type turns uint64

func (s *turns) next(n int) int {
	*s = *s*6364136223846793005 + 1442695040888963407
	return int(uint64(*s) >> 33 % uint64(n))
}

// values tells at most MaxParams values' types of table(), most of them of few words.
func (s *turns) values() (l []int) {
	for range s.next(api.MaxParams + 1) {
		switch s.next(3) {
		case 0:
			l = append(l, s.next(4))
		case 1:
			l = append(l, []int{i64, bit, f64, text, list, pointer, mixed, within, toWide, ofRows}[s.next(10)])
		default:
			l = append(l, s.next(api.MaxWords+1))
		}
	}
	return l
}

// wordsOf tells how many words a value's type of table() has.
func wordsOf(i int) int {
	if i <= api.MaxWords {
		return i
	}
	return map[int]int{i64: 1, bit: 1, f64: 1, text: 2, list: 2, pointer: 1, mixed: 4, within: 5, toWide: 1, ofRows: 2}[i]
}

// modelOf marks registers one by one, and reckons from the whole row of marks anew for each value.
func modelOf(values []int, base int) (l []api.Place, end int) {
	var used [api.ArgRegs]bool
	end = base
	for _, i := range values {
		var free []int
		for r, is := range used {
			if !is {
				free = append(free, r)
			}
		}
		n := wordsOf(i)
		if n > len(free) {
			for ; n > 0; n-- {
				l = append(l, api.Place{Stack: true, N: end})
				end++
			}
			continue
		}
		for _, r := range free[:n] {
			used[r] = true
			l = append(l, api.Place{N: r})
		}
	}
	return l, end
}

// TestModel: P11.1: many parameters and results, held against the model.
func TestModel(t *testing.T) {
	s := turns(7)
	l := table()
	seen := [4]int{}
	for range 20000 {
		params, results := s.values(), s.values()
		var want api.Assign
		var behind int
		want.Args, behind = modelOf(params, 0)
		want.Results, want.Slots = modelOf(results, behind)
		holds(t, l, params, results, want)
		if behind > 0 {
			seen[0]++
		}
		if want.Slots > behind {
			seen[1]++
		}
		for n := 1; n < len(want.Args); n++ {
			if want.Args[n-1].Stack && !want.Args[n].Stack {
				seen[2]++
			}
		}
		if len(want.Args) == 0 {
			seen[3]++
		}
	}
	for _, n := range seen {
		if n < 500 {
			t.Errorf("too few of a sort: %d", seen)
		}
	}
}

// pieces tells each value's own places; false, if they are not as many as its words.
func pieces(values []int, l []api.Place) (cut [][]api.Place, fine bool) {
	for _, i := range values {
		n := wordsOf(i)
		if n > len(l) {
			return nil, false
		}
		cut = append(cut, l[:n])
		l = l[n:]
	}
	return cut, len(l) == 0
}

// isWhole tells whether a value's words are in places one behind the other, of one sort.
func isWhole(l []api.Place) bool {
	for n := range l {
		if l[n].Stack != l[0].Stack || l[n].N != l[0].N+n {
			return false
		}
	}
	return true
}

// TestApart: P11.2: no two words of parameters in one place, nor two of results, nor a slot of both; registers and slots are ones that there are, and each slot is somebody's; a value is never cut.
func TestApart(t *testing.T) {
	s := turns(11)
	l := table()
	for range 20000 {
		params, results := s.values(), s.values()
		a, e := Places(l, params, results)
		if e != api.OK {
			t.Fatalf("%d, %d: %d", params, results, e)
		}
		slots := make([]int, a.Slots)
		for _, places := range [][]api.Place{a.Args, a.Results} {
			var taken [api.ArgRegs]int
			for _, p := range places {
				row := taken[:]
				if p.Stack {
					row = slots
				}
				if p.N < 0 || p.N >= len(row) || row[p.N] > 0 {
					t.Fatalf("%d, %d: %+v: no place, or somebody's: %+v", params, results, p, a)
				}
				row[p.N]++
			}
		}
		if slices.Contains(slots, 0) {
			t.Fatalf("%d, %d: a slot that is nobody's: %+v", params, results, a)
		}
		given, fine := pieces(params, a.Args)
		told, fineToo := pieces(results, a.Results)
		if !fine || !fineToo {
			t.Fatalf("%d, %d: not a place a word: %+v", params, results, a)
		}
		for _, piece := range slices.Concat(given, told) {
			if !isWhole(piece) {
				t.Fatalf("%d, %d: cut: %+v", params, results, a)
			}
		}
	}
}

// begins tells whether the whole begins with the part.
func begins(whole, part []api.Place) bool {
	return len(part) <= len(whole) && slices.Equal(whole[:len(part)], part)
}

// TestAhead: P11.2: with a parameter more, or a result more, what is ahead of it is as it was.
func TestAhead(t *testing.T) {
	s := turns(13)
	l := table()
	for range 3000 {
		params, results := s.values(), s.values()
		whole, _ := Places(l, params, results)
		for n := range params {
			part, e := Places(l, params[:n], results)
			if e != api.OK || !begins(whole.Args, part.Args) {
				t.Fatalf("%d of %d, %d: %+v, %+v, %d", n, params, results, part, whole, e)
			}
			more, e := Places(l, params[:n+1], results)
			if e != api.OK || !begins(more.Args, part.Args) || more.Slots < part.Slots {
				t.Fatalf("%d and one of %d, %d: %+v, %+v, %d", n, params, results, part, more, e)
			}
		}
		for n := range results {
			part, e := Places(l, params, results[:n])
			if e != api.OK || !slices.Equal(whole.Args, part.Args) || !begins(whole.Results, part.Results) || part.Slots > whole.Slots {
				t.Fatalf("%d, %d of %d: %+v, %+v, %d", params, n, results, part, whole, e)
			}
		}
	}
}

func spoil(l []api.Place) {
	l = append(l, api.Place{N: 91}, api.Place{N: 92})
	for i := range l[:cap(l)] {
		l[:cap(l)][i] = api.Place{Stack: true, N: -77}
	}
}

// TestNothingShared: P11.2, R1, R2: what is handed in is not changed; lists that were told are new, their spare room too; the same call tells the same.
func TestNothingShared(t *testing.T) {
	s := turns(17)
	l, kept := table(), table()
	for range 3000 {
		params, results := s.values(), s.values()
		params, results = append(params, 5)[:len(params)], append(results, 6)[:len(results)]
		given, told := slices.Clone(params[:len(params)+1]), slices.Clone(results[:len(results)+1])
		a, e := Places(l, params, results)
		first := api.Assign{Args: slices.Clone(a.Args), Results: slices.Clone(a.Results), Slots: a.Slots}
		spoil(a.Args)
		spoil(a.Args[:0])
		if !slices.Equal(a.Results, first.Results) {
			t.Fatalf("%d, %d: both lists are one", params, results)
		}
		spoil(a.Results)
		spoil(a.Results[:0])
		again, e2 := Places(l, params, results)
		if !equal(again, first) || e != e2 {
			t.Fatalf("%d, %d: %+v, %d, and before %+v, %d", params, results, again, e2, first, e)
		}
		if !slices.Equal(params[:len(given)], given) || !slices.Equal(results[:len(told)], told) {
			t.Fatalf("%d, %d were changed: %d, %d", given, told, params, results)
		}
	}
	for i := range l {
		if l[i].Kind != kept[i].Kind || l[i].Elem != kept[i].Elem || l[i].N != kept[i].N || !slices.Equal(l[i].Fields, kept[i].Fields) {
			t.Errorf("entry %d was changed: %+v, %+v", i, l[i], kept[i])
		}
	}
}
