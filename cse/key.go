package cse

import (
	"gantry/api"
	"gantry/edit"
)

// mostArgs is how many Args those values have at most that may be one.
const mostArgs = 3

// key is all by which values are told apart.
type key struct {
	op, kind int
	n        int64
	m        int
	args     [mostArgs]int // None behind the last one
}

func keyOf(v api.Value) key {
	k := key{op: v.Op, kind: v.Kind, n: v.N, m: v.M, args: [...]int{edit.None, edit.None, edit.None}}
	copy(k.args[:], v.Args)
	return k
}

// mayBeOne tells whether values of the operation that have one key are one word: the pure ones, and OpLoads, whose key has the memory in it.
func mayBeOne(op int) bool {
	switch op {
	case api.OpConst, api.OpArg, api.OpUn, api.OpBin, api.OpConv, api.OpSel, api.OpLoad, api.OpData, api.OpAddr, api.OpBlock, api.OpResult:
		return true
	}
	return false
}
