package live

import (
	"slices"

	"gantry/api"
)

// first is a value's first use in a block, not by OpPhis.
type first struct{ block, place int }

// uses is where a function's values are made and used.
type uses struct {
	code   api.Code
	home   []int     // of each value the block in whose List it is
	firsts [][]first // of each value that counts the first use in each block that has one
	ways   [][]int   // of each value that counts the blocks at whose ends OpPhis use it
}

func newUses(c api.Code) *uses {
	u := &uses{code: c, home: slices.Repeat([]int{none}, len(c.Values))}
	u.firsts, u.ways = make([][]first, len(c.Values)), make([][]int, len(c.Values))
	for b, x := range c.Blocks {
		for place, v := range x.List {
			u.home[v] = b
			if c.Values[v].Op != api.OpPhi {
				u.use(first{b, place}, c.Values[v].Args)
			}
		}
		u.use(first{b, len(x.List)}, x.Args)
		u.merge(x)
	}
	return u
}

func (u *uses) counts(v int) bool { return u.code.Values[v].Kind != api.KindMem }

// use takes the uses at one place. Places of a block come rising, so that the first one is there already when another comes.
func (u *uses) use(at first, args []int) {
	for _, v := range args {
		if l := u.firsts[v]; u.counts(v) && (len(l) == 0 || l[len(l)-1].block != at.block) {
			u.firsts[v] = append(l, at)
		}
	}
}

// merge takes what OpPhis of a block use, way by way: so one that many of them use for one way is kept once.
func (u *uses) merge(x api.Block) {
	for i, p := range x.Preds {
		for _, phi := range x.List {
			if u.code.Values[phi].Op != api.OpPhi {
				break
			}
			v := u.code.Values[phi].Args[i]
			if l := u.ways[v]; u.counts(v) && (len(l) == 0 || l[len(l)-1] != p) {
				u.ways[v] = append(l, p)
			}
		}
	}
}
