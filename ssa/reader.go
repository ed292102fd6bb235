package ssa

import (
	"gantry/api"
	"gantry/fault"
)

// none stands where there is no number of a value, a block or a place.
const none = -1

// reader asks of one Code what it must be. Its lists are known once the form is right, its tree once the flow is.
type reader struct {
	u    api.Unit
	c    api.Code
	home []int // of each value the block in whose List it stands; none of a hole
	spot []int // of each value how many stand ahead of it there
	tree tree
}

func take(u api.Unit) {
	fault.Must(len(u.Codes) > 0 && len(u.Codes) <= api.MaxFuncs && len(u.Data) <= api.MaxCode, api.ErrSSAForm)
	for _, c := range u.Codes {
		r := &reader{u: u, c: c}
		r.form()
		r.tree = newTree(ways(c.Blocks))
		r.kinds()
		r.order()
		r.memory()
	}
}

// isNumberOf tells whether n is a number of a list of that length.
func isNumberOf[T int | int64](length int, n T) bool { return n >= 0 && n < T(length) }

func last(l []int) int { return l[len(l)-1] }
