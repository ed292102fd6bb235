package build

import (
	"slices"

	"gantry/api"
)

// none is the block of an end to which nothing comes.
const none = -1

// end is where a way has come to: a block that does not end yet, and what is known there: the memory, and behind it the words of the locals.
type end struct {
	block int
	state []int
}

func (e *end) live() bool { return e.block != none }

func (e *end) memory() int { return e.state[0] }

// loop is one that is being laid: its head, the OpPhis there, the ends that leave it.
type loop struct {
	head  int
	phis  []int
	exits []end
}

// room tells a new block's number.
func (w *writer) room() int {
	w.blocks = append(w.blocks, api.Block{Kind: api.BlockPlain})
	return len(w.blocks) - 1
}

// link lets a block go on to another one.
func (w *writer) link(from, to int) {
	w.blocks[from].Succs = append(w.blocks[from].Succs, to)
	w.blocks[to].Preds = append(w.blocks[to].Preds, from)
}

// quit ends the function here: with the memory, and, ahead of it, what the block has already.
func (w *writer) quit(x api.Block) {
	b := &w.blocks[w.block]
	b.Kind, b.N, b.Args = x.Kind, x.N, append(x.Args, w.memory())
	w.stop()
}

// stop tells where it is, from where nothing goes on for now.
func (w *writer) stop() end {
	told := w.end
	w.end = end{block: none}
	return told
}

// either goes one of two ways. Each is a closure that lays what is done in a block of its own, and tells what comes of it, as many words as the other one, unless it does not come to its end. What either tells is that of the way that was gone.
func (w *writer) either(holds int, yes, no func() []int) []int {
	fork := w.stop()
	b := &w.blocks[fork.block]
	b.Kind, b.Args = api.BlockIf, []int{holds}
	begin := func(way func() []int) end {
		w.end = end{w.room(), slices.Clone(fork.state)}
		w.link(fork.block, w.block)
		told := way()
		w.state = append(w.state, told...)
		return w.stop()
	}
	w.meet([]end{begin(yes), begin(no)})
	if !w.live() {
		return nil
	}
	known := len(fork.state)
	told := w.state[known:]
	w.state = w.state[:known:known]
	return told
}

// meet goes on where ends meet: in a block of their own, if they are several.
func (w *writer) meet(ends []end) {
	ends = slices.DeleteFunc(ends, func(e end) bool { return !e.live() })
	if len(ends) == 0 {
		return
	}
	if len(ends) == 1 {
		w.end = ends[0]
		return
	}
	w.end = end{block: w.room()}
	for _, e := range ends {
		w.link(e.block, w.block)
	}
	for i := range ends[0].state {
		w.state = append(w.state, w.merged(ends, i))
	}
}

// merged tells the word i behind ends that meet.
func (w *writer) merged(ends []end, i int) int {
	one := ends[0].state[i]
	var args []int
	alike := true
	for _, e := range ends {
		args = append(args, e.state[i])
		alike = alike && e.state[i] == one
	}
	if alike {
		return one
	}
	return w.lay(api.OpPhi, w.kind(one), 0, args...)
}

// around lays a loop. What its rounds change is not known at its head: each word there is an OpPhi, and trimmed takes away those that are needless.
func (w *writer) around(round func()) {
	before := w.stop()
	l := &loop{head: w.room()}
	w.link(before.block, l.head)
	w.block = l.head
	for _, x := range before.state {
		l.phis = append(l.phis, w.lay(api.OpPhi, w.kind(x), 0, x))
	}
	w.state = slices.Clone(l.phis)
	w.loops = append(w.loops, l)
	round()
	if w.live() {
		w.again(l)
	}
	w.loops = w.loops[:len(w.loops)-1]
	w.meet(l.exits)
}

// outer tells the n-th loop around.
func (w *writer) outer(n int64) *loop { return w.loops[len(w.loops)-1-int(n)] }

// leave goes out of a loop.
func (w *writer) leave(l *loop) { l.exits = append(l.exits, w.stop()) }

// again goes back to a loop's head.
func (w *writer) again(l *loop) {
	e := w.stop()
	w.link(e.block, l.head)
	for i, n := range l.phis {
		w.values[n].Args = append(w.values[n].Args, e.state[i])
	}
}
