package flow

import (
	"slices"

	"gantry/api"
)

// The model: what the chapter says, word by word, as plainly as can be.

// modelPost keeps of each open block how many of its Succs it has tried.
func modelPost(c api.Code) []int {
	seen := make([]bool, len(c.Blocks))
	tried := make([]int, len(c.Blocks))
	open, post := list(0), []int(nil)
	seen[0] = true
	for len(open) > 0 {
		b := open[len(open)-1]
		if tried[b] == len(c.Blocks[b].Succs) {
			open, post = open[:len(open)-1], append(post, b)
			continue
		}
		s := c.Blocks[b].Succs[tried[b]]
		tried[b]++
		if !seen[s] {
			seen[s] = true
			open = append(open, s)
		}
	}
	return post
}

// modelReach tells which blocks are come to from one, itself too, without going through another.
func modelReach(c api.Code, from, without int) []bool {
	seen := make([]bool, len(c.Blocks))
	for wait := list(from); len(wait) > 0; wait = wait[1:] {
		if b := wait[0]; b != without && !seen[b] {
			seen[b] = true
			wait = append(wait, c.Blocks[b].Succs...)
		}
	}
	return seen
}

// modelAbove tells of each block those that dominate it, itself too.
func modelAbove(c api.Code) [][]int {
	above := make([][]int, len(c.Blocks))
	for a, x := range c.Blocks {
		if x.Kind == api.BlockNone {
			continue
		}
		for b, seen := range modelReach(c, 0, a) {
			if c.Blocks[b].Kind != api.BlockNone && !seen {
				above[b] = append(above[b], a)
			}
		}
	}
	return above
}

// modelDoms: of those that dominate a block and are not it the immediate one is dominated by all.
func modelDoms(c api.Code) []int {
	above := modelAbove(c)
	doms := make([]int, len(c.Blocks))
	for b := range doms {
		doms[b] = -1
		for _, a := range above[b] {
			if a != b && len(above[a]) == len(above[b])-1 {
				doms[b] = a
			}
		}
	}
	return doms
}

func modelLoops(c api.Code) []api.Loop {
	above := modelAbove(c)
	var l []api.Loop
	for h, x := range c.Blocks {
		var again []int
		for _, p := range x.Preds {
			if slices.Contains(above[p], h) {
				again = append(again, p)
			}
		}
		if len(again) > 0 {
			l = append(l, api.Loop{Head: h, Body: modelBody(c, h, again)})
		}
	}
	for n := range l {
		l[n].Outer = modelOuter(l, n)
	}
	for n := range l {
		for o := n; o >= 0; o = l[o].Outer {
			l[n].Depth++
		}
	}
	return l
}

func modelBody(c api.Code, h int, again []int) []int {
	var body []int
	for b, x := range c.Blocks {
		if x.Kind == api.BlockNone {
			continue
		}
		seen := modelReach(c, b, h)
		if b == h || slices.ContainsFunc(again, func(p int) bool { return seen[p] }) {
			body = append(body, b)
		}
	}
	return body
}

func modelOuter(l []api.Loop, n int) int {
	outer := -1
	for o, x := range l {
		if o != n && slices.Contains(x.Body, l[n].Head) && (outer < 0 || len(x.Body) < len(l[outer].Body)) {
			outer = o
		}
	}
	return outer
}
