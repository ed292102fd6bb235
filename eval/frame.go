package eval

import (
	"slices"

	"gantry/api"
	"gantry/course"
)

// frame is a function that is away: its arguments' words; the words of its values, by their numbers. Of an OpAlloc that is where its block begins, of an OpCall its call's number; other memory has none.
type frame struct {
	*runner
	*code
	args  []uint64
	words []uint64
}

// walk goes from block to block, and tells the results.
func (f *frame) walk() []uint64 {
	b, phis := 0, 0
	for {
		x := &f.Blocks[b]
		for _, n := range x.List[phis:] {
			f.Burn()
			f.words[n] = f.value(&f.Values[n])
		}
		f.Burn()
		exit := 0
		switch x.Kind {
		case api.BlockIf:
			exit = 1 - int(f.words[x.Args[0]])
		case api.BlockRet:
			return f.of(x.Args[:len(x.Args)-1])
		case api.BlockPanic:
			course.Stop(api.EndPanic, x.N)
		}
		w := f.way(b, exit)
		b, phis = x.Succs[exit], len(w.takes)
		f.merge(f.Blocks[b].List[:phis], w.takes)
	}
}

// merge lays the words of OpPhis. All that they take is read ahead of that, for one may take another one.
func (f *frame) merge(phis, takes []int) {
	words, moved := f.words, f.moved[:0]
	for _, n := range takes {
		moved = append(moved, words[n])
	}
	for i, n := range phis {
		words[n] = moved[i]
	}
	f.moved = moved
}

// of tells the words of values, in memory of their own.
func (f *frame) of(values []int) []uint64 {
	told := slices.Grow([]uint64(nil), len(values))
	for _, n := range values {
		told = append(told, f.words[n])
	}
	return told
}
