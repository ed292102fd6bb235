package build

import (
	"gantry/api"
	"gantry/edit"
)

// trimmer takes away OpPhis: those that are one value, and those of words that nobody needs.
type trimmer struct {
	values []api.Value
	blocks []api.Block
	phis   []int        // which values are OpPhis
	stands edit.Stands  // of each value the one that stands for it
	apart  []edit.Apart // of each OpPhi two of its Args
	needed []bool       // of each OpPhi whether it stays
	number []int        // of each value that stays its new number
}

// trimmed tells what stays, in the order in which it was. All lists of values are new ones.
func trimmed(values []api.Value, blocks []api.Block) ([]api.Value, []api.Block) {
	many := len(values)
	t := &trimmer{values: values, blocks: blocks, stands: edit.NewStands(many), apart: make([]edit.Apart, many), needed: make([]bool, many), number: make([]int, many)}
	for n, v := range values {
		if v.Op == api.OpPhi {
			t.phis = append(t.phis, n)
		}
	}
	for t.join() {
	}
	t.need()
	return t.renumbered()
}

// join lets one value stand for each OpPhi that is no other one, or itself; whether there was any. What was laid last goes ahead: of loops within loops the inner ones are decided first.
func (t *trimmer) join() bool {
	found := false
	for i := len(t.phis) - 1; i >= 0; i-- {
		n := t.phis[i]
		if t.stands.Gone(n) {
			continue
		}
		if x, is := t.stands.Single(n, t.values[n].Args, &t.apart[n]); is {
			t.stands[n] = x
			found = true
		}
	}
	return found
}

// need finds the OpPhis that something else needs, if need be by other ones. The memory's all stay: a block is to know which one it is in.
func (t *trimmer) need() {
	var work []int
	ask := func(list []int) {
		for _, n := range list {
			if n = t.stands.Of(n); t.values[n].Op == api.OpPhi && !t.needed[n] {
				t.needed[n] = true
				work = append(work, n)
			}
		}
	}
	for n, v := range t.values {
		if v.Op != api.OpPhi {
			ask(v.Args)
		} else if v.Kind == api.KindMem {
			ask([]int{n})
		}
	}
	for _, b := range t.blocks {
		ask(b.Args)
	}
	for len(work) > 0 {
		n := work[len(work)-1]
		work = work[:len(work)-1]
		ask(t.values[n].Args)
	}
}

func (t *trimmer) stays(n int) bool { return t.values[n].Op != api.OpPhi || t.needed[n] }

func (t *trimmer) renumbered() ([]api.Value, []api.Block) {
	many := 0
	for n := range t.values {
		if t.stays(n) {
			t.number[n] = many
			many++
		}
	}
	var values []api.Value
	for n, v := range t.values {
		if t.stays(n) {
			v.Args = t.numbers(v.Args)
			values = append(values, v)
		}
	}
	var blocks []api.Block
	for _, b := range t.blocks {
		b.Args = t.numbers(b.Args)
		b.List = t.left(b.List)
		blocks = append(blocks, b)
	}
	return values, blocks
}

// numbers tells the new numbers of what stands for values.
func (t *trimmer) numbers(list []int) []int {
	var told []int
	for _, n := range list {
		told = append(told, t.number[t.stands.Of(n)])
	}
	return told
}

// left tells the new numbers of the values that stay.
func (t *trimmer) left(list []int) []int {
	var told []int
	for _, n := range list {
		if t.stays(n) {
			told = append(told, t.number[n])
		}
	}
	return told
}
