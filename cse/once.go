package cse

import (
	"gantry/api"
	"gantry/edit"
	"gantry/flow"
)

// tellOnce lets the first one of values that are the same stand for those that it dominates. The lists of the Code must be memory of its own.
func tellOnce(c *api.Code) {
	stands := edit.NewStands(len(c.Values))
	below := children(c)
	known := map[key]int{} // what is told in the block and in those that dominate it
	var walk func(b int)
	walk = func(b int) {
		var here []key
		for _, n := range c.Blocks[b].List {
			v := c.Values[n]
			if !mayBeOne(v.Op) {
				continue
			}
			// What a value uses is told ahead of it, so that its Args are known for good.
			stands.Put(v.Args)
			k := keyOf(v)
			if first, ok := known[k]; ok {
				stands[n] = first
				continue
			}
			known[k] = n
			here = append(here, k)
		}
		for _, d := range below[b] {
			walk(d)
		}
		for _, k := range here {
			delete(known, k)
		}
	}
	walk(0)
	stands.Settle(c)
}

// children tells of each block those that it dominates immediately.
func children(c *api.Code) [][]int {
	doms, _ := flow.Doms(*c)
	below := make([][]int, len(doms))
	for b, d := range doms {
		if d >= 0 {
			below[d] = append(below[d], b)
		}
	}
	return below
}
