// Package compare holds runs, and what passes make of units, against each other, for tests.
package compare

import (
	"slices"

	"gantry/api"
)

// Beginning tells whether one trace is the other one's beginning.
func Beginning(a, b []uint64) bool {
	n := min(len(a), len(b))
	return slices.Equal(a[:n], b[:n])
}

// SameCall: a nil list and an empty one are one.
func SameCall(a, b api.Call) bool {
	return a.Func == b.Func && a.Back == b.Back && slices.Equal(a.Args, b.Args) && slices.Equal(a.Results, b.Results)
}

// alike tells whether all is the same but the steps.
func alike(a, b api.Run) bool {
	return slices.Equal(a.Trace, b.Trace) && slices.EqualFunc(a.Calls, b.Calls, SameCall) && a.End == b.End && a.N == b.N
}

// Same tells whether all is the same.
func Same(a, b api.Run) bool { return alike(a, b) && a.Steps == b.Steps }

// Agree tells whether two runs agree: chapter 16's word.
func Agree(a, b api.Run) bool {
	if a.End == api.EndFuel || b.End == api.EndFuel {
		return Beginning(a.Trace, b.Trace)
	}
	return alike(a, b)
}
