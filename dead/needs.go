package dead

import "gantry/api"

// needs tells of each value whether it is needed.
func needs(c *api.Code) []bool {
	needed := make([]bool, len(c.Values))
	work := make([]int, 0, len(c.Values)) // no value waits here twice, so that there is room for all
	need := func(values ...int) {
		for _, n := range values {
			if !needed[n] {
				needed[n] = true
				work = append(work, n)
			}
		}
	}
	for n, v := range c.Values {
		if isSeen(v) {
			need(n)
		}
	}
	for _, b := range c.Blocks {
		need(b.Args...)
	}
	for len(work) > 0 {
		last := len(work) - 1
		n := work[last]
		work = work[:last]
		need(c.Values[n].Args...)
	}
	return needed
}

// isSeen tells whether a value is needed even if nobody uses it: those that make memory are.
func isSeen(v api.Value) bool {
	switch v.Op {
	case api.OpInit, api.OpStore, api.OpAlloc, api.OpEmit, api.OpCall:
		return true
	case api.OpPhi:
		return v.Kind == api.KindMem
	}
	return false
}
