package sample

import (
	"slices"

	"gantry/api"
)

// renumbered tells the Code with other numbers of values and blocks (but of block 0), and holes among them.
func renumbered(t *Turns, c api.Code) api.Code {
	values := scattered(t, len(c.Values), 0)
	blocks := scattered(t, len(c.Blocks), 1)
	to := api.Code{Params: c.Params, Results: c.Results}
	to.Values = make([]api.Value, 1+slices.Max(values))
	to.Blocks = make([]api.Block, 1+slices.Max(blocks))
	for n, v := range c.Values {
		v.Args = apply(values, v.Args)
		to.Values[values[n]] = v
	}
	for b, x := range c.Blocks {
		x.Args, x.List = apply(values, x.Args), apply(values, x.List)
		x.Preds, x.Succs = apply(blocks, x.Preds), apply(blocks, x.Succs)
		to.Blocks[blocks[b]] = x
	}
	return to
}

// scattered tells new numbers for n things, of which the first ones keep theirs; some numbers stay free.
func scattered(t *Turns, n, keep int) []int {
	l := make([]int, n)
	spare := t.Next(3)
	for i, to := range t.Shuffled(n + spare - keep) {
		if i < n-keep {
			l[i+keep] = to + keep
		}
	}
	for i := range keep {
		l[i] = i
	}
	return l
}
