package types

import (
	"gantry/api"
	"gantry/word"
)

// A slice and a string are a word of KindPtr, and one of KindI64 behind it.
const (
	pairSize  = 16
	pairAlign = 8
	pairCount = 8 // where the word of KindI64 begins
)

// lie is how an entry lies: its bytes; its words, which count where no array is in it.
type lie struct {
	size, align int
	words       int
	array       bool
}

func (l lie) isLarge() (is bool) { return l.size > api.MaxSize }

func (l lie) isValue() (is bool) { return !l.array && l.words <= api.MaxWords }

// asker tells how an entry of a table lies.
type asker func(i int) (l lie)

// newAsker tells one that keeps what it has found, for a table of few entries may have one in another in very many ways. What it asks for stands ahead, so it ends. No entry has the alignment 0.
func newAsker(t []api.Type) (ask asker) {
	found := make([]lie, len(t))
	ask = func(i int) (l lie) {
		if found[i].align == 0 {
			found[i] = find(t[i], ask)
		}
		return found[i]
	}
	return ask
}

func find(x api.Type, ask asker) (l lie) {
	switch x.Kind {
	case api.TypeArray:
		element := ask(x.Elem)
		return lie{size: x.N * element.size, align: element.align, array: true}
	case api.TypeStruct:
		return structOf(x.Fields, ask)
	case api.TypeSlice, api.TypeString:
		return lie{size: pairSize, align: pairAlign, words: 2}
	}
	n := word.Bytes(x.Kind)
	return lie{size: n, align: n, words: 1}
}

func structOf(fields []int, ask asker) (l lie) {
	l.align = 1
	for _, i := range fields {
		f := ask(i)
		l.align = max(l.align, f.align)
		l.words += f.words
		l.array = l.array || f.array
	}
	_, end := places(fields, ask)
	l.size = roundUp(end, l.align)
	return l
}

// places tells where each of a struct's fields begins, and where the last one ends.
func places(fields []int, ask asker) (begins []int, end int) {
	for _, i := range fields {
		f := ask(i)
		end = roundUp(end, f.align)
		begins = append(begins, end)
		end += f.size
	}
	return begins, end
}

func roundUp(n, align int) (up int) { return (n + align - 1) / align * align }

// words tells those of a value's type. What has none is not gone into: it may have nothing in very many ways.
func words(t []api.Type, ask asker, i int) (kinds, offsets []int) {
	var walk func(i, at int)
	walk = func(i, at int) {
		switch x := t[i]; {
		case ask(i).words == 0:
		case x.Kind == api.TypeStruct:
			begins, _ := places(x.Fields, ask)
			for f, field := range x.Fields {
				walk(field, at+begins[f])
			}
		case x.Kind == api.TypeSlice, x.Kind == api.TypeString:
			kinds = append(kinds, api.KindPtr, api.KindI64)
			offsets = append(offsets, at, at+pairCount)
		default:
			kinds = append(kinds, x.Kind)
			offsets = append(offsets, at)
		}
	}
	walk(i, 0)
	return kinds, offsets
}
