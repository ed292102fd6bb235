package abi

import (
	"gantry/api"
	"gantry/types"
)

// counts tells how many words each of these entries has; false, if one is no value's type, or there are too many. The table is one, so that whatever types finds wrong is wrong with the entry's number, or with what it is.
func counts(t []api.Type, entries []int) (words []int, fine bool) {
	if len(entries) > api.MaxParams {
		return nil, false
	}
	for _, i := range entries {
		kinds, _, e := types.Words(t, i)
		if e != api.OK {
			return nil, false
		}
		words = append(words, len(kinds))
	}
	return words, true
}

// registers tells two closures that keep which registers are left: left tells the register of a value's w-th word, and whether there is one; take takes those of a value that has found all of its own. Asking takes none, so that a value that does not fit leaves them to later ones.
func registers() (left func(w int) (n int, is bool), take func(words int)) {
	next := 0
	left = func(w int) (n int, is bool) { return next + w, next+w < api.ArgRegs }
	take = func(words int) { next += words }
	return left, take
}

// place tells where the words of values of so many words each are, the stack's slots from slot on being free; and the first slot that is free behind them.
func place(values []int, slot int) (places []api.Place, free int) {
	left, take := registers()
nextValue:
	for _, words := range values {
		first := len(places)
		for w := range words {
			n, is := left(w)
			if !is {
				places = append(places[:first], slots(slot, words)...)
				slot += words
				continue nextValue
			}
			places = append(places, api.Place{N: n})
		}
		take(words)
	}
	return places, slot
}

// slots tells so many slots of the stack, one behind the other.
func slots(slot, words int) (l []api.Place) {
	for w := range words {
		l = append(l, api.Place{Stack: true, N: slot + w})
	}
	return l
}
