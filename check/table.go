package check

import (
	"gantry/api"
	"gantry/fault"
	"gantry/types"
)

// table is a program's types, and which of them are a value's: asked once, for each question goes through all entries.
type table struct {
	entries []api.Type
	values  []bool
}

func newTable(entries []api.Type) table {
	fault.Must(types.Check(entries) == api.OK, api.ErrCheckTypes)
	t := table{entries: entries}
	for i := range entries {
		is, _ := types.Value(entries, i)
		t.values = append(t.values, is)
	}
	return t
}

func (t table) isEntry(i int) bool { return isNumberOf(len(t.entries), i) }

func (t table) isValue(i int) bool { return t.isEntry(i) && t.values[i] }

func (t table) kind(i int) int { return t.entries[i].Kind }

func (t table) isBool(i int) bool { return t.kind(i) == api.KindBool }

func (t table) isInt(i int) bool { return t.kind(i) >= api.KindI8 && t.kind(i) <= api.KindU64 }

// isPlain: of these kinds are constants, what is told, and what the function 0 is given.
func (t table) isPlain(i int) bool { return t.kind(i) >= api.KindBool && t.kind(i) <= api.KindF64 }

func (t table) isList(i int) bool {
	return t.kind(i) == api.TypeSlice || t.kind(i) == api.TypeString
}

func (t table) pointsTo(i, to int) bool {
	return t.kind(i) == api.KindPtr && t.entries[i].Elem == to
}

// behind tells what the pointer i points to; false, if it is no pointer.
func (t table) behind(i int) (int, bool) {
	return t.entries[i].Elem, t.kind(i) == api.KindPtr
}

// element tells what a slice is of, or the array that i points to; false, if it is neither.
func (t table) element(i int) (int, bool) {
	if to, is := t.behind(i); is {
		return t.entries[to].Elem, t.kind(to) == api.TypeArray
	}
	return t.entries[i].Elem, t.kind(i) == api.TypeSlice
}

// isNumberOf tells whether x is the number of one of so many.
func isNumberOf[T int | int64](many int, x T) bool { return x >= 0 && x < T(many) }
