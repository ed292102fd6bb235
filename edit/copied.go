// Package edit is how a program in SSA form is changed: for packages whose values stand for others, or whose branches are decided.
package edit

import (
	"slices"

	"gantry/api"
)

// Copied tells the unit in memory of its own, no two lists of which have any in common.
func Copied(u api.Unit) api.Unit {
	u.Codes, u.Data = slices.Clone(u.Codes), slices.Clone(u.Data)
	for i := range u.Codes {
		c := &u.Codes[i]
		c.Params, c.Results = slices.Clone(c.Params), slices.Clone(c.Results)
		c.Values, c.Blocks = slices.Clone(c.Values), slices.Clone(c.Blocks)
		for n := range c.Values {
			c.Values[n].Args = slices.Clone(c.Values[n].Args)
		}
		for b := range c.Blocks {
			x := &c.Blocks[b]
			x.Args, x.Preds, x.Succs, x.List = slices.Clone(x.Args), slices.Clone(x.Preds), slices.Clone(x.Succs), slices.Clone(x.List)
		}
	}
	return u
}
