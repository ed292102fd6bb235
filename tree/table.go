package tree

import (
	"gantry/api"
	"gantry/types"
)

// Entry is a type, and what is asked of it again and again: its bytes; of a value's type its words' kinds, and where they begin.
type Entry struct {
	api.Type
	Size    int
	Kinds   []int
	Offsets []int
}

// Table is a program's types: asked once, for each question goes through all entries.
type Table []Entry

func newTable(entries []api.Type) Table {
	var t Table
	for i, x := range entries {
		size, _ := types.Size(entries, i)
		kinds, offsets, _ := types.Words(entries, i)
		t = append(t, Entry{Type: x, Size: size, Kinds: kinds, Offsets: offsets})
	}
	return t
}

// Words tells how many words a value of the type i has.
func (t Table) Words(i int) int { return len(t[i].Kinds) }

// Stride tells the bytes of what the pointer i points to, of what the slice or string i is made of.
func (t Table) Stride(i int) int {
	if t[i].Kind == api.TypeString {
		return 1
	}
	return t[t[i].Elem].Size
}

// Kinds tells the words' kinds of values of these types, one value behind the other.
func (t Table) Kinds(list []int) []int {
	var told []int
	for _, i := range list {
		told = append(told, t[i].Kinds...)
	}
	return told
}

// Part is some of a row of words: where they begin in it, and how many there are.
type Part struct {
	At   int
	Many int
}

// parts tells where the words of values of these types stand, one value behind the other.
func (t Table) parts(list []int) []Part {
	var told []Part
	end := 0
	for _, i := range list {
		told = append(told, Part{end, t.Words(i)})
		end += t.Words(i)
	}
	return told
}
