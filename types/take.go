package types

import "gantry/api"

// takeTable tells by whom to ask for entries; an error, if this is no table, or an entry is large. It goes no further than to the first large one: what is made of entries that are not large has no size that would wrap round.
func takeTable(t []api.Type) (ask asker, e api.Errno) {
	if !isTable(t) {
		return nil, api.ErrTypeForm
	}
	ask = newAsker(t)
	for i := range t {
		if ask(i).isLarge() {
			return nil, api.ErrTypeLarge
		}
	}
	return ask, api.OK
}

// takeEntry: what is wrong with the table goes ahead of what is wrong with i.
func takeEntry(t []api.Type, i int) (ask asker, e api.Errno) {
	ask, e = takeTable(t)
	if e == api.OK && !isNumberOf(len(t), i) {
		return nil, api.ErrTypeForm
	}
	return ask, e
}

func isTable(t []api.Type) (is bool) {
	if len(t) > api.MaxTypes {
		return false
	}
	for i, x := range t {
		if !isEntry(x, i, len(t)) {
			return false
		}
	}
	return true
}

// isEntry tells whether x may be the entry i of so many.
func isEntry(x api.Type, i, entries int) (is bool) {
	switch x.Kind {
	case api.KindPtr, api.TypeSlice:
		return isNumberOf(entries, x.Elem) && x.N == 0 && len(x.Fields) == 0
	case api.TypeArray:
		return isNumberOf(i, x.Elem) && isNumberOf(api.MaxSize+1, x.N) && len(x.Fields) == 0
	case api.TypeStruct:
		return x.Elem == 0 && x.N == 0 && areFields(x.Fields, i)
	}
	plain := x.Kind == api.TypeString || x.Kind >= api.KindBool && x.Kind <= api.KindF64
	return plain && x.Elem == 0 && x.N == 0 && len(x.Fields) == 0
}

// areFields tells whether a struct that is the entry i may have these fields.
func areFields(fields []int, i int) (are bool) {
	if len(fields) > api.MaxFields {
		return false
	}
	for _, f := range fields {
		if !isNumberOf(i, f) {
			return false
		}
	}
	return true
}

// isNumberOf tells whether x is the number of one of so many.
func isNumberOf(many, x int) (is bool) { return x >= 0 && x < many }
