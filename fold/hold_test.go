package fold_test

import (
	"testing"

	"gantry/api"
	"gantry/compare"
	"gantry/edit"
	"gantry/fold"
	. "gantry/hand"
	"gantry/sample"
	"gantry/ssa"
)

// values tells how many values but OpConsts there are.
func values(c api.Code) int { return compare.Count(c, api.OpNone) - compare.Count(c, api.OpConst) }

// folded tells what the pass makes of a unit that checks, and holds it against what P17.1 and P17.2 say of its form.
func folded(t *testing.T, name string, u api.Unit) api.Unit {
	t.Helper()
	if e := ssa.Check(u); e != api.OK {
		t.Fatalf("%s: not right: %d: %+v", name, e, u)
	}
	made, e := fold.Run(u)
	if e != api.OK {
		t.Fatalf("%s: %d: %+v", name, e, u)
	}
	if wrong := compare.Formed(u, made); wrong != "" {
		t.Fatalf("%s: %s: %+v, made of %+v", name, wrong, made, u)
	}
	for i, c := range made.Codes {
		if row := left(c); row != "" {
			t.Fatalf("%s: Code %d: %s: %+v, made of %+v", name, i, row, made, u)
		}
		if many, most := values(c), values(u.Codes[i]); many > most {
			t.Fatalf("%s: Code %d: %d values but OpConsts, and %d before: %+v, made of %+v", name, i, many, most, made, u)
		}
	}
	return made
}

// keeps holds the runs of a unit and of what is made of it.
func keeps(t *testing.T, name string, u, made api.Unit, args []uint64, fuels ...int) {
	t.Helper()
	if wrong := compare.Kept(u, made, args, fuels...); wrong != "" {
		t.Fatalf("%s, %d: %s: %+v, made of %+v", name, args, wrong, made, u)
	}
}

// hold holds the pass for one unit, and tells what it makes of it: once, and once more behind that; with several fuels for some of the arguments.
func hold(t *testing.T, name string, u api.Unit, args ...[]uint64) api.Unit {
	t.Helper()
	made := folded(t, name, u)
	again := folded(t, name+", again", made)
	for i, l := range args {
		if i%5 > 0 {
			keeps(t, name, u, made, l)
			continue
		}
		keeps(t, name, u, made, l, 0, 1, 3, 8, 25)
		keeps(t, name+", again", u, again, l)
	}
	return made
}

// goes holds the pass for one unit, and that there was something of the list in it.
func goes(t *testing.T, name string, u api.Unit, args ...[]uint64) api.Unit {
	t.Helper()
	found := false
	for _, c := range u.Codes {
		found = found || left(c) != ""
	}
	if !found {
		t.Fatalf("%s: nothing to do: %+v", name, u)
	}
	return hold(t, name, u, args...)
}

// stays holds the pass for one unit in which there is nothing of the list, and that nothing goes.
func stays(t *testing.T, name string, u api.Unit, args ...[]uint64) {
	t.Helper()
	made := hold(t, name, u, args...)
	for i, c := range u.Codes {
		if many := values(made.Codes[i]); left(c) != "" || many != values(c) {
			t.Errorf("%s: %d values of %d: %+v", name, many, values(c), made)
		}
	}
}

// The values of a function that start begins: its arguments; behind them, if they are pointers, the room's size, its OpAlloc, and the room, into which tell lays a pointer.
const (
	flag = 1 + iota
	index
	point
	first
	second
	room = second + 3
)

// start begins a Code 0 that has arguments of the kind among others.
func start(kind int) *Maker {
	m := Begin(Yes, U64, Ptr, kind, kind)
	if kind == Ptr {
		m.Block(8)
	}
	return m
}

// some tells so many lists of arguments for it.
func some(t *sample.Turns, kind, many int) (told [][]uint64) {
	for i := range many {
		told = append(told, []uint64{uint64(i % 2), sample.Pick(t, Edges(U64)), sample.Pick(t, Edges(Ptr)), sample.Pick(t, Edges(kind)), sample.Pick(t, Edges(kind))})
	}
	return told
}

// all tells all words of the kind that are edges, and pairs of them.
func all(kind int) (told [][]uint64) {
	for i, x := range Edges(kind) {
		for j, y := range Edges(kind) {
			told = append(told, []uint64{uint64(i+j) % 2, uint64(3 * j), 1 << 12, x, y})
		}
	}
	return told
}

// tell lets a run tell a value; of a pointer, which can't be told, its bits.
func tell(m *Maker, n int) {
	if m.Values[n].Kind == Ptr {
		m.Store(room, 0, n)
		n = m.Load(U64, room, 0)
	}
	m.Emit(n)
}

// back tells the unit with the numbers of its values turned round, so that what is used has a higher number than what uses it.
func back(u api.Unit) api.Unit {
	u = edit.Copied(u)
	for i := range u.Codes {
		c := &u.Codes[i]
		last := len(c.Values) - 1
		turn := func(l []int) {
			for i := range l {
				l[i] = last - l[i]
			}
		}
		values := make([]api.Value, len(c.Values))
		for n, v := range c.Values {
			turn(v.Args)
			values[last-n] = v
		}
		c.Values = values
		for _, b := range c.Blocks {
			turn(b.Args)
			turn(b.List)
		}
	}
	return u
}
