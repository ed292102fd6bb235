package live

import (
	"slices"

	"gantry/api"
)

// queue hands blocks out, the nearest first.
type queue struct {
	last    []int // of each distance the entry that came last
	entries []entry
	waiting int
}

// entry is a block, and the entry as far away that came ahead of it.
type entry struct{ block, ahead int }

func (q *queue) put(b, far int) {
	q.entries = append(q.entries, entry{b, q.last[far]})
	q.last[far] = len(q.entries) - 1
	q.waiting++
}

// nearest hands out all blocks, those too that are put in meanwhile, farther away than the one that is handed out; it leaves the queue empty for the next value.
func (q *queue) nearest(yield func(b, far int) bool) {
	for far := 0; q.waiting > 0; far++ {
		for e := q.last[far]; e != none; e = q.entries[e].ahead {
			q.waiting--
			if !yield(q.entries[e].block, far) {
				return
			}
		}
		q.last[far] = none
	}
	q.entries = q.entries[:0]
}

// measure is how far one value after the other is from blocks' ends.
type measure struct {
	*uses
	queue
	used set // the blocks with uses, OpPhis' apart
	done set // those from whose end it is known how far it is
}

func newMeasure(u *uses) *measure {
	count := len(u.code.Blocks)
	// No shortest way goes through a block twice: none is longer than all blocks in a row.
	last := slices.Repeat([]int{none}, len(u.code.Values)+count+1)
	return &measure{uses: u, queue: queue{last: last}, used: newSet(count), done: newSet(count)}
}

// back puts in the blocks from which b is come to; far is how far it is from its beginning.
func (m *measure) back(b, far int) {
	for _, p := range m.code.Blocks[b].Preds {
		m.put(p, far)
	}
}

// walk tells how far v is from the end of each block that needs it there: from its uses back to where it is made, the shortest ways first.
func (m *measure) walk(v int, tell func(b int, x api.Next)) {
	m.used.clear()
	m.done.clear()
	for _, p := range m.ways[v] {
		m.put(p, 0)
	}
	for _, at := range m.firsts[v] {
		m.used.add(at.block)
		if at.block != m.home[v] {
			m.back(at.block, at.place)
		}
	}
	for b, far := range m.nearest {
		if m.done.has(b) {
			continue
		}
		m.done.add(b)
		tell(b, api.Next{Value: v, Far: far})
		if b != m.home[v] && !m.used.has(b) {
			m.back(b, 1+len(m.code.Blocks[b].List)+far)
		}
	}
}

func distances(u *uses) [][]api.Next {
	m := newMeasure(u)
	return gathered(len(u.code.Blocks), func(tell func(b int, x api.Next)) {
		for v := range u.home {
			m.walk(v, tell)
		}
	})
}
