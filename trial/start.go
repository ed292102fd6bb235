package trial

import (
	"gantry/api"
	"gantry/edit"
	. "gantry/hand"
	"gantry/sample"
)

// The values of a function that Start begins: its arguments; behind them, if they are pointers, the room's size, its OpAlloc, and the room, into which Tell lays a pointer.
const (
	Flags = 1 + iota
	Index
	Point
	First
	Second
	Room = Second + 3
)

// Start begins a Code 0 that has arguments of the kind among others.
func Start(kind int) *Maker {
	m := Begin(Yes, U64, Ptr, kind, kind)
	if kind == Ptr {
		m.Block(8)
	}
	return m
}

// Some tells so many lists of arguments for it.
func Some(t *sample.Turns, kind, many int) (told [][]uint64) {
	for i := range many {
		told = append(told, []uint64{uint64(i % 2), sample.Pick(t, Edges(U64)), sample.Pick(t, Edges(Ptr)), sample.Pick(t, Edges(kind)), sample.Pick(t, Edges(kind))})
	}
	return told
}

// All tells all words of the kind that are edges, and pairs of them.
func All(kind int) (told [][]uint64) {
	for i, x := range Edges(kind) {
		for j, y := range Edges(kind) {
			told = append(told, []uint64{uint64(i+j) % 2, uint64(3 * j), 1 << 12, x, y})
		}
	}
	return told
}

// Tell lets a run tell a value; of a pointer, which can't be told, its bits.
func Tell(m *Maker, n int) {
	if m.Values[n].Kind == Ptr {
		m.Store(Room, 0, n)
		n = m.Load(U64, Room, 0)
	}
	m.Emit(n)
}

// Back tells the unit with the numbers of its values turned round, so that what is used has a higher number than what uses it.
func Back(u api.Unit) api.Unit {
	u = edit.Copied(u)
	for i := range u.Codes {
		c := &u.Codes[i]
		last := len(c.Values) - 1
		turn := func(l []int) {
			for i := range l {
				l[i] = last - l[i]
			}
		}
		values := make([]api.Value, len(c.Values))
		for n, v := range c.Values {
			turn(v.Args)
			values[last-n] = v
		}
		c.Values = values
		for _, b := range c.Blocks {
			turn(b.Args)
			turn(b.List)
		}
	}
	return u
}
