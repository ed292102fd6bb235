package source

import (
	"gantry/api"
	"gantry/types"
)

// entry is a type, and what a run asks of it again and again: its bytes; of a value's type its words' kinds, and where they begin.
type entry struct {
	api.Type
	size    int
	kinds   []int
	offsets []int
}

// table is a program's types: asked once, for each question goes through all entries.
type table []entry

func newTable(entries []api.Type) table {
	var t table
	for i, x := range entries {
		size, _ := types.Size(entries, i)
		kinds, offsets, _ := types.Words(entries, i)
		t = append(t, entry{Type: x, size: size, kinds: kinds, offsets: offsets})
	}
	return t
}

// words tells how many words a value of the type i has.
func (t table) words(i int) int { return len(t[i].kinds) }

// stride tells the bytes of what the pointer i points to, of what the slice or string i is made of.
func (t table) stride(i int) uint64 {
	if t[i].Kind == api.TypeString {
		return 1
	}
	return uint64(t[t[i].Elem].size)
}

// part is some of a row of words: where they begin in it, and how many there are.
type part struct {
	at   int
	many int
}

// parts tells where the words of values of these types stand, one value behind the other, and how many there are in all.
func (t table) parts(list []int) ([]part, int) {
	var told []part
	end := 0
	for _, i := range list {
		told = append(told, part{end, t.words(i)})
		end += t.words(i)
	}
	return told, end
}
