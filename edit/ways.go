package edit

import (
	"slices"

	"gantry/api"
)

// None stands for an exit where there is none; among Preds for a way that is gone no more.
const None = -1

// Order tells the blocks that block 0 reaches, each one behind those that dominate it.
func Order(blocks []api.Block) []int {
	var order []int
	seen := make([]bool, len(blocks))
	var visit func(b int)
	visit = func(b int) {
		seen[b] = true
		for _, s := range blocks[b].Succs {
			if !seen[s] {
				visit(s)
			}
		}
		order = append(order, b)
	}
	visit(0)
	slices.Reverse(order)
	return order
}

// Decide lets each BlockIf of which an exit is told go on by that one alone. Blocks that are not reached then are holes, as their values are. It tells the blocks that have lost a way: it stays among Preds as None, and OpPhis take themselves by it, until Close; for where ways are lost one by one, taking out each would take long. The lists of the Code must be memory of its own.
func Decide(c *api.Code, exits []int) []int {
	cut := &cutter{Code: c}
	for b, exit := range exits {
		if exit != None {
			cut.leave(b, exit)
		}
	}
	reached := make([]bool, len(c.Blocks))
	for _, b := range Order(c.Blocks) {
		reached[b] = true
	}
	for b := range c.Blocks {
		if !reached[b] {
			cut.empty(b)
		}
	}
	slices.Sort(cut.lost)
	return slices.DeleteFunc(slices.Compact(cut.lost), func(b int) bool { return !reached[b] })
}

// Close takes out of Preds the ways that are lost, and what OpPhis take by them.
func Close(c *api.Code) {
	for b := range c.Blocks {
		x := &c.Blocks[b]
		if !slices.Contains(x.Preds, None) {
			continue
		}
		for _, n := range Phis(c, b) {
			c.Values[n].Args = kept(c.Values[n].Args, x.Preds)
		}
		x.Preds = kept(x.Preds, x.Preds)
	}
}

// Phis tells a block's OpPhis: a piece of its List.
func Phis(c *api.Code, b int) []int {
	l := c.Blocks[b].List
	if at := slices.IndexFunc(l, func(n int) bool { return c.Values[n].Op != api.OpPhi }); at >= 0 {
		return l[:at:at]
	}
	return l
}

// kept tells what stands in l beside the ways that are not lost; l may be the ways.
func kept(l, ways []int) []int {
	told := l[:0]
	for i, p := range ways {
		if p != None {
			told = append(told, l[i])
		}
	}
	return told
}

// cutter takes ways away.
type cutter struct {
	*api.Code
	lost []int // blocks that have lost a way
}

// cut: the way with that number among Preds of b is lost.
func (c *cutter) cut(b, at int) {
	c.Blocks[b].Preds[at] = None
	for _, n := range Phis(c.Code, b) {
		c.Values[n].Args[at] = n
	}
	c.lost = append(c.lost, b)
}

// leave lets a BlockIf have one exit alone. Where both lead to one block, the first one is the first among Preds there.
func (c *cutter) leave(b, exit int) {
	x := &c.Blocks[b]
	other := x.Succs[1-exit]
	from := c.Blocks[other].Preds
	at := slices.Index(from, b)
	if x.Succs[0] == x.Succs[1] && exit == 0 {
		at += 1 + slices.Index(from[at+1:], b)
	}
	c.cut(other, at)
	x.Kind, x.Args, x.Succs = api.BlockPlain, nil, x.Succs[exit:exit+1:exit+1]
}

// empty makes holes of a block and its values.
func (c *cutter) empty(b int) {
	x := &c.Blocks[b]
	for _, s := range x.Succs {
		if at := slices.Index(c.Blocks[s].Preds, b); at >= 0 { // there is none, where that one is empty already
			c.cut(s, at)
		}
	}
	for _, n := range x.List {
		c.Values[n] = api.Value{}
	}
	*x = api.Block{}
}
