package cse_test

import (
	"slices"
	"testing"

	"gantry/api"
	"gantry/compare"
	"gantry/edit"
	. "gantry/hand"
	"gantry/sample"
	"gantry/ssa"
)

// doubler tells values of a Code once more, and lets others use those; what ssa.Check refuses is taken back.
type doubler struct {
	*sample.Turns
	u api.Unit
	c *api.Code
}

func (d doubler) right() bool { return ssa.Check(d.u) == api.OK }

// double tells one of the values once more, in some block.
func (d doubler) double() {
	n := d.Next(len(d.c.Values))
	v := d.c.Values[n]
	b := &d.c.Blocks[d.Next(len(d.c.Blocks))]
	if !isTold(v.Op) || b.Kind == api.BlockNone {
		return
	}
	was := b.List
	v.Args = slices.Clone(v.Args)
	d.c.Values = append(d.c.Values, v)
	b.List = slices.Insert(slices.Clone(was), d.Next(len(was)+1), len(d.c.Values)-1)
	if !d.right() {
		b.List = was
		d.c.Values = d.c.Values[:len(d.c.Values)-1]
		return
	}
	for range 3 {
		d.use(n, len(d.c.Values)-1)
	}
}

// use lets one of those that use n use what is told instead.
func (d doubler) use(n, instead int) {
	var lists [][]int
	for _, v := range d.c.Values {
		lists = append(lists, v.Args)
	}
	for _, b := range d.c.Blocks {
		lists = append(lists, b.Args)
	}
	lists = slices.DeleteFunc(lists, func(l []int) bool { return !slices.Contains(l, n) })
	if len(lists) == 0 {
		return
	}
	l := sample.Pick(d.Turns, lists)
	at := slices.Index(l, n)
	l[at] = instead
	if !d.right() {
		l[at] = n
	}
}

// open lets a branch hang on a comparison with an argument, now and then.
func (d doubler) open() {
	for b := range d.c.Blocks {
		if x := &d.c.Blocks[b]; x.Kind == api.BlockIf && d.Next(2) == 0 {
			was := x.Args[0]
			for n, v := range d.c.Values {
				if v.Kind == Yes && v.Op == api.OpBin && d.Next(3) == 0 {
					x.Args[0] = n
					break
				}
			}
			if !d.right() {
				x.Args[0] = was
			}
		}
	}
}

// given tells a program that is right, in which some values are told more than once, and arguments for it.
func given(t *sample.Turns) (api.Unit, []uint64) {
	u := sample.Unit(t)
	for i := range u.Codes {
		d := doubler{t, u, &u.Codes[i]}
		d.open()
		for range t.Next(20) {
			d.double()
		}
	}
	var args []uint64
	for _, k := range u.Codes[0].Params {
		args = append(args, sample.Pick(t, Edges(k)))
	}
	return u, args
}

// TestMany: P18.1, P18.2: many programs, with several fuels each.
func TestMany(t *testing.T) {
	t.Parallel()
	if ends := pass.Many(t, 47, given, 1500); slices.Min(ends[1:]) < 30 {
		t.Errorf("%d", ends)
	}
}

// TestGiven: the programs have all there is to do.
func TestGiven(t *testing.T) {
	t.Parallel()
	turns := sample.Turns(48)
	var gone [api.OpAddr + 1]int
	for range 600 {
		u, _ := given(&turns)
		made := pass.Made(t, "given", edit.Copied(u))
		for i, c := range u.Codes {
			for op := range gone {
				if op > 0 {
					gone[op] += compare.Count(c, op) - compare.Count(made.Codes[i], op)
				}
			}
		}
	}
	for op, many := range gone {
		if isTold(op) != (many > 0) || isTold(op) && many < 10 {
			t.Errorf("%d: %d times", op, many)
		}
	}
}

// TestTwice: P18.1: a second Run behind the first does what the first did.
func TestTwice(t *testing.T) {
	t.Parallel()
	pass.Twice(t, 49, given)
}

// TestNumbers: P18.1: numbers of values that are turned round change nothing.
func TestNumbers(t *testing.T) {
	t.Parallel()
	pass.Turned(t, 50, given)
}

// TestBuilt: P18.1, P18.2: units that package build makes of programs.
func TestBuilt(t *testing.T) {
	t.Parallel()
	if found := pass.Built(t, 51); found < 100 {
		t.Errorf("%d", found)
	}
}

// TestNothingShared: R1, R2: what is handed in is neither changed nor kept; what is told is new; the same call tells the same.
func TestNothingShared(t *testing.T) { pass.NothingShared(t, 52, given) }

// TestListsApart: R2: no two lists of a unit, and of what is made of it, share memory, spare room too.
func TestListsApart(t *testing.T) { pass.ListsApart(t, 53, given) }

// TestEmptyLists: R2: a nil list and an empty one are one.
func TestEmptyLists(t *testing.T) { pass.EmptyLists(t, 54, given) }

// TestAtOnce: R1: calls at once do not know of each other.
func TestAtOnce(t *testing.T) { pass.AtOnce(t, 55, given) }

// TestWrong: P18.1: ErrPassForm for each of ssa.Check's errors, alone and in a Code behind a right one.
func TestWrong(t *testing.T) { pass.Wrong(t) }

// TestSpoilt: P18.1: programs with a small change: ErrPassForm, or what is right.
func TestSpoilt(t *testing.T) {
	t.Parallel()
	pass.Spoilt(t, 56)
}
