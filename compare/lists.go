package compare

import (
	"bytes"
	"slices"

	"gantry/api"
)

// lists tells all lists of numbers of a unit.
func lists(u api.Unit) (told [][]int) {
	for _, c := range u.Codes {
		told = append(told, c.Params, c.Results)
		for _, v := range c.Values {
			told = append(told, v.Args)
		}
		for _, b := range c.Blocks {
			told = append(told, b.Args, b.Preds, b.Succs, b.List)
		}
	}
	return told
}

// Wipe writes into all that a unit is, and into its spare room.
func Wipe(u api.Unit) {
	for _, l := range lists(u) {
		for i := range l[:cap(l)] {
			l[:cap(l)][i] = -7
		}
	}
	for i := range u.Codes[:cap(u.Codes)] {
		c := &u.Codes[:cap(u.Codes)][i]
		clear(c.Values[:cap(c.Values)])
		clear(c.Blocks[:cap(c.Blocks)])
	}
	for i := range u.Data[:cap(u.Data)] {
		u.Data[:cap(u.Data)][i] ^= 0xff
	}
	clear(u.Codes[:cap(u.Codes)])
}

// Apart tells whether no two lists of numbers of these units share memory, spare room too: each one is filled with a number of its own, and has it still when all are.
func Apart(units ...api.Unit) bool {
	var all [][]int
	for _, u := range units {
		all = append(all, lists(u)...)
	}
	for n, l := range all {
		for i := range l[:cap(l)] {
			l[:cap(l)][i] = n
		}
	}
	for n, l := range all {
		for _, x := range l[:cap(l)] {
			if x != n {
				return false
			}
		}
	}
	return true
}

// Equal tells whether two units are the same; a nil list and an empty one are one.
func Equal(u, v api.Unit) bool {
	return bytes.Equal(u.Data, v.Data) && slices.EqualFunc(u.Codes, v.Codes, equalCodes)
}

func equalCodes(c, d api.Code) bool {
	return slices.Equal(c.Params, d.Params) && slices.Equal(c.Results, d.Results) && slices.EqualFunc(c.Values, d.Values, equalValues) && slices.EqualFunc(c.Blocks, d.Blocks, equalBlocks)
}

func equalValues(v, w api.Value) bool {
	return v.Op == w.Op && v.Kind == w.Kind && v.N == w.N && v.M == w.M && slices.Equal(v.Args, w.Args)
}

func equalBlocks(x, y api.Block) bool {
	return x.Kind == y.Kind && x.N == y.N && slices.Equal(x.Args, y.Args) && slices.Equal(x.Preds, y.Preds) && slices.Equal(x.Succs, y.Succs) && slices.Equal(x.List, y.List)
}
