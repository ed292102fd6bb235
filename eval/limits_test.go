package eval_test

import (
	"slices"
	"testing"

	"gantry/api"
	. "gantry/hand"
)

// TestGreatBlock: MaxValues values in one block.
func TestGreatBlock(t *testing.T) {
	m := Begin()
	x, one := m.Num(0), m.Num(1)
	for len(m.Values) < api.MaxValues {
		x = m.Bin(api.BinAdd, I64, x, one)
	}
	m.Ret(x)
	r := ran(t, "a great block", Unit(m), nil, api.MaxFuel)
	if r.End != api.EndExit || r.N != api.MaxValues-3 || r.Steps != api.MaxValues+1 {
		t.Errorf("%+v", r)
	}
}

// TestGreatRow: MaxBlocks blocks in a row, in MaxFuncs functions, each of which calls the next one.
func TestGreatRow(t *testing.T) {
	var l []*Maker
	for f := range int64(api.MaxFuncs) {
		m := Begin()
		x := m.Num(uint64(f))
		if f+1 < api.MaxFuncs {
			c := m.Call(f + 1)
			x = m.Bin(api.BinAdd, I64, x, m.Result(I64, c, 0))
		}
		for b := 1; b < api.MaxBlocks; b++ {
			m.Plain(b)
			m.Next(b - 1)
		}
		m.Ret(m.Phi(I64, x))
		l = append(l, m)
	}
	r := ran(t, "a great row", Unit(l...), nil, api.MaxFuel)
	if r.End != api.EndExit || r.N != 31*32/2 || len(r.Calls) != api.MaxFuncs || r.Steps != api.MaxFuncs*(api.MaxBlocks+2)+31*3 {
		t.Errorf("%d, %d, %d calls, %d steps", r.End, r.N, len(r.Calls), r.Steps)
	}
}

// fan has MaxBlocks blocks, nearly half of which go on with one, in which an OpPhi takes another number by each way: the argument says by which one it is come to.
func fan() *Maker {
	const sides, end = (api.MaxBlocks - 2) / 2, api.MaxBlocks - 1
	m := Begin(I64)
	var takes, preds []int
	for i := range uint64(sides) {
		side := len(m.Blocks)
		x := m.Num(i)
		m.Branch(m.Bin(api.BinEq, I64, 1, x), side, side+1)
		m.Next(side - 1)
		takes, preds = append(takes, m.Num(1000+i)), append(preds, side)
		m.Plain(end)
		m.Next(side - 1)
	}
	takes, preds = append(takes, m.Num(7)), append(preds, end-1)
	m.Plain(end)
	slices.Reverse(preds)
	slices.Reverse(takes)
	m.Next(preds...)
	m.Ret(m.Phi(I64, takes...))
	return m
}

// TestFan: a block with as many Preds as may be.
func TestFan(t *testing.T) {
	u := Unit(fan())
	for _, n := range []uint64{0, 1, 1000, 2046} {
		ends(t, "by a side", u, words(n), api.EndExit, int64(1000+n))
	}
	for _, n := range []uint64{2047, minus(1)} {
		ends(t, "past all sides", u, words(n), api.EndExit, 7)
	}
}

// TestGreatMerge: nearly all values are OpPhis of one block that go round.
func TestGreatMerge(t *testing.T) {
	m := Begin()
	zero, one := m.Num(0), m.Num(1)
	m.Plain(1)
	m.Next(0, 1)
	loop := m.MemoryPhi()
	var phis []int
	for len(m.Values) < api.MaxValues-1 {
		phis = append(phis, m.Phi(I64, zero, 0))
	}
	for i, p := range phis {
		m.Takes(p, zero, phis[(i+len(phis)-1)%len(phis)])
	}
	m.Takes(phis[0], one, phis[len(phis)-1])
	m.Emit(phis[100])
	m.Takes(loop, 0, m.Memory)
	m.Plain(1)
	const rounds = 1000
	r := ran(t, "a great merge", Unit(m), nil, 4+2*rounds)
	for i, x := range r.Trace {
		if (i == 100) != (x == 1) || x > 1 {
			t.Fatalf("%d: %d", i, x)
		}
	}
	if len(r.Trace) != rounds || r.Steps != 4+2*rounds {
		t.Errorf("%d, %d steps", len(r.Trace), r.Steps)
	}
}

// great has MaxValues values, of which few are worked out, if its argument is true, and nearly all of them, if it is not.
func great(callee int64) *Maker {
	m := Begin(Yes, I64)
	m.Branch(1, 1, 2)
	m.Next(0)
	one := m.Num(1)
	c := m.Call(callee, 1, m.Bin(api.BinAdd, I64, 2, one))
	m.Ret(m.Result(I64, c, 0))
	m.Next(0)
	x := m.Num(1)
	for len(m.Values) < api.MaxValues {
		x = m.Bin(api.BinAdd, I64, x, 2)
	}
	m.Ret(x)
	return m
}

// TestGreatCalls: a function of MaxValues values is called as deep as may be, and as often as fuel says: its words are not made anew each time.
func TestGreatCalls(t *testing.T) {
	r := ran(t, "deep", Unit(great(0)), words(1, 0), api.MaxFuel)
	if r.End != api.EndResource || len(r.Calls) != 1025 || r.Calls[1024].Args[1] != 1024 {
		t.Errorf("%d, %d calls", r.End, len(r.Calls))
	}
	r = ran(t, "great", Unit(great(0)), words(0, 3), api.MaxFuel)
	if r.End != api.EndExit || r.N != 1+3*(api.MaxValues-8) || r.Steps != 4+1+(api.MaxValues-8)+1 {
		t.Errorf("%d, %d, %d steps", r.End, r.N, r.Steps)
	}
	m := Begin(Yes, I64)
	m.Plain(1)
	m.Next(0, 1)
	loop := m.MemoryPhi()
	m.Call(1, 1, 2)
	m.Takes(loop, 0, m.Memory)
	m.Plain(1)
	nearly := great(2)
	quick := Begin(Yes, I64)
	quick.Ret(2)
	const rounds, perRound = 60000, 2 + 9 + 4
	r = ran(t, "often", Unit(m, nearly, quick), words(1, 5), 4+rounds*perRound)
	if r.End != api.EndFuel || len(r.Calls) != 1+2*rounds || !r.Calls[2*rounds].Back {
		t.Errorf("%d, %d calls", r.End, len(r.Calls))
	}
}
