package cse_test

import (
	"fmt"

	"gantry/api"
	"gantry/compare"
	"gantry/cse"
	"gantry/flow"
	"gantry/trial"
)

var pass = trial.Pass{Run: cse.Run, Left: left, Changed: changed}

const (
	flag   = trial.Flags
	index  = trial.Index
	point  = trial.Point
	first  = trial.First
	second = trial.Second
)

// changed is P18.2.
func changed(was, made api.Code) string {
	if many, most := compare.Count(made, api.OpNone), compare.Count(was, api.OpNone); many > most {
		return fmt.Sprintf("%d values, and %d before", many, most)
	}
	return ""
}

// known is all that P18.1 tells values apart by.
type known struct {
	op, kind int
	n        int64
	m, many  int
	args     [3]int
}

// left tells which values are left that are the same, where one's block dominates the other's: P18.1.
func left(c api.Code) string {
	doms, _ := flow.Doms(c)
	same := map[known]map[int]int{} // of each kind of values the blocks in which there is one, and its number
	for b, x := range c.Blocks {
		for _, n := range x.List {
			v := c.Values[n]
			if !isTold(v.Op) {
				continue
			}
			k := known{op: v.Op, kind: v.Kind, n: v.N, m: v.M, many: len(v.Args)}
			copy(k.args[:], v.Args)
			if same[k] == nil {
				same[k] = map[int]int{}
			}
			if one, ok := same[k][b]; ok {
				return fmt.Sprintf("the values %d and %d of the block %d are the same: %+v", one, n, b, v)
			}
			same[k][b] = n
		}
	}
	for _, blocks := range same {
		if len(blocks) == 1 {
			continue
		}
		for b, n := range blocks {
			for d := doms[b]; d >= 0; d = doms[d] {
				if one, ok := blocks[d]; ok {
					return fmt.Sprintf("the value %d of the block %d and %d of the block %d are the same: %+v", one, d, n, b, c.Values[n])
				}
			}
		}
	}
	return ""
}

// isTold: the pure values, and OpLoads.
func isTold(op int) bool {
	switch op {
	case api.OpNone, api.OpPhi, api.OpInit, api.OpStore, api.OpAlloc, api.OpEmit, api.OpCall:
		return false
	}
	return true
}
