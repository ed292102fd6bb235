package types

import (
	"slices"
	"testing"

	"gantry/api"
)

// turns tells numbers that look like any others, the same in each run.
type turns uint64

func (s *turns) next(n int) int {
	*s = *s*6364136223846793005 + 1442695040888963407
	return int(uint64(*s) >> 33 % uint64(n))
}

// table tells one of few entries, of every kind, most of them small.
func (s *turns) table() (l []api.Type) {
	for n := 2 + s.next(9); len(l) < n; {
		i := len(l)
		switch k := 1 + s.next(22); {
		case k < api.KindPtr:
			l = append(l, of(k))
		case k == api.KindPtr:
			l = append(l, ptrTo(s.next(n)))
		case k == api.TypeSlice:
			l = append(l, sliceOf(s.next(n)))
		case k == api.TypeString:
			l = append(l, of(k))
		case k == api.TypeArray && i > 0:
			l = append(l, arrayOf([]int{0, 1, 2, 3, 7, 40, 300, api.MaxSize}[s.next(8)], s.next(i)))
		case i > 0:
			x := structure()
			for range s.next(6) {
				x.Fields = append(x.Fields, s.next(i))
			}
			l = append(l, x)
		}
	}
	return l
}

// model lies a type as the chapter's words do, byte by byte and without keeping anything: its marks tell where each word begins, wherever arrays repeat it.
type model struct {
	size, align int
	array       bool
	kinds, at   []int
	offsets     []int
}

// modelOf tells false, once an entry is large.
func modelOf(l []api.Type, i int) (m model, may bool) {
	m.align = 1
	add := func(i int) bool {
		f, may := modelOf(l, i)
		for m.size%f.align != 0 {
			m.size++
		}
		for n := range f.kinds {
			m.kinds = append(m.kinds, f.kinds[n])
			m.at = append(m.at, m.size+f.at[n])
		}
		m.offsets = append(m.offsets, m.size)
		m.size += f.size
		m.array = m.array || f.array
		if m.align < f.align {
			m.align = f.align
		}
		return may && m.size <= api.MaxSize
	}
	switch x := l[i]; x.Kind {
	case api.TypeArray:
		e, may := modelOf(l, x.Elem)
		return model{size: e.size * x.N, align: e.align, array: true}, may && e.size*x.N <= api.MaxSize
	case api.TypeStruct:
		for _, f := range x.Fields {
			if !add(f) {
				return m, false
			}
		}
		for m.size%m.align != 0 {
			m.size++
		}
		return m, m.size <= api.MaxSize
	case api.TypeSlice, api.TypeString:
		return model{size: 16, align: 8, kinds: []int{api.KindPtr, api.KindI64}, at: []int{0, 8}}, true
	default:
		n := []int{0, 1, 1, 2, 4, 8, 1, 2, 4, 8, 8, 8}[x.Kind]
		return model{size: n, align: n, kinds: []int{x.Kind}, at: []int{0}}, true
	}
}

func (m model) told() (x told) {
	x = told{size: m.size, align: m.align, offsets: m.offsets}
	if x.value = !m.array && len(m.kinds) <= api.MaxWords; x.value {
		x.kinds, x.at = m.kinds, m.at
	}
	return x
}

// TestModel: P7.1, P7.2: many tables, each entry held against the model.
func TestModel(t *testing.T) {
	s := turns(7)
	seen := [3]int{}
	for range 20000 {
		l := s.table()
		var want []told
		may := true
		for i := range l {
			m, fits := modelOf(l, i)
			may = may && fits
			want = append(want, m.told())
		}
		if !may {
			seen[0]++
			noTable(t, "large", api.ErrTypeLarge, l)
			continue
		}
		seen[1]++
		for i, w := range want {
			if x := ask(t, l, i); !equal(x, w) {
				t.Fatalf("entry %d of %+v:\n%+v, not\n%+v", i, l, x, w)
			}
			if w.value {
				seen[2]++
			}
		}
	}
	if seen[0] < 100 || seen[1] < 1000 || seen[2] < 10000 {
		t.Errorf("too few of a sort: %d", seen)
	}
}

// apart tells whether pieces of so many bytes lie in order, without overlapping, within size bytes.
func apart(begins, sizes []int, size int) bool {
	end := 0
	for n, at := range begins {
		if at < end {
			return false
		}
		end = at + sizes[n]
	}
	return end <= size
}

// TestFollows: P7.3: fields, and words, do not overlap, and end within; all lie as they are aligned; sizes are multiples.
func TestFollows(t *testing.T) {
	s := turns(11)
	for range 20000 {
		l := s.table()
		if Check(l) != api.OK {
			continue
		}
		for i := range l {
			x := ask(t, l, i)
			if x.size%x.align != 0 || x.align&(x.align-1) != 0 || x.align > 8 {
				t.Fatalf("entry %d of %+v: %d bytes, aligned by %d", i, l, x.size, x.align)
			}
			var sizes []int
			for n, f := range l[i].Fields {
				field := ask(t, l, f)
				sizes = append(sizes, field.size)
				if x.offsets[n]%field.align != 0 || x.align%field.align != 0 {
					t.Fatalf("entry %d of %+v: field %d is not aligned", i, l, n)
				}
			}
			if !apart(x.offsets, sizes, x.size) {
				t.Fatalf("entry %d of %+v: fields at %d, of %d bytes, in %d", i, l, x.offsets, sizes, x.size)
			}
			sizes = nil
			for n, k := range x.kinds {
				sizes = append(sizes, []int{0, 1, 1, 2, 4, 8, 1, 2, 4, 8, 8, 8}[k])
				if x.at[n]%sizes[n] != 0 || x.align%sizes[n] != 0 {
					t.Fatalf("entry %d of %+v: word %d is not aligned", i, l, n)
				}
			}
			if !apart(x.at, sizes, x.size) {
				t.Fatalf("entry %d of %+v: words at %d, of %d bytes, in %d", i, l, x.at, sizes, x.size)
			}
		}
	}
}

func spoil(l []int) {
	l = append(l, 91, 92)
	for i := range l[:cap(l)] {
		l[:cap(l)][i] = -77
	}
}

// TestNothingShared: P7.3, R1, R2: tables are not changed; lists that were told are new, their spare room too; calls in between change nothing.
func TestNothingShared(t *testing.T) {
	s := turns(13)
	for range 2000 {
		l := s.table()
		kept := slices.Clone(l)
		for i := range kept {
			kept[i].Fields = slices.Clone(l[i].Fields)
		}
		for i := range l {
			kinds, offsets, e := Words(l, i)
			first, at := slices.Clone(kinds), slices.Clone(offsets)
			spoil(kinds)
			if !slices.Equal(offsets, at) {
				t.Fatalf("entry %d of %+v: both lists are one", i, kept)
			}
			spoil(offsets)
			kinds, offsets, e2 := Words(l, i)
			if !slices.Equal(kinds, first) || !slices.Equal(offsets, at) || e != e2 {
				t.Fatalf("entry %d of %+v: %d, %d, %d, and before %d, %d, %d", i, kept, kinds, offsets, e2, first, at, e)
			}
		}
		for i := range l {
			if l[i].Kind != kept[i].Kind || l[i].Elem != kept[i].Elem || l[i].N != kept[i].N || !slices.Equal(l[i].Fields, kept[i].Fields) {
				t.Fatalf("entry %d was changed: %+v, %+v", i, l[i], kept[i])
			}
		}
	}
}
