package fold_test

import (
	"slices"
	"testing"
	"time"

	"gantry/api"
	"gantry/compare"
	"gantry/fold"
	. "gantry/hand"
)

// row is as many values one behind the other as there may be, each made of the one before it.
func row(kind int, next func(m *Maker, x int) int) *Maker {
	m := start(kind)
	x := first
	for len(m.Values) < api.MaxValues-16 {
		x = next(m, x)
	}
	tell(m, x)
	return m.Done()
}

// rings is so many loops within loops, whose OpPhis are one value: that is known of the innermost one first.
func rings(many int) *Maker {
	m := start(I64)
	x := first
	var phis, memories []int
	for k := 1; k <= many; k++ {
		m.Plain(k)
		m.Next(k-1, 2*many+1-k)
		x = m.Phi(I64, x, 0)
		phis = append(phis, x)
		memories = append(memories, m.MemoryPhi(m.Ends[k-1], 0))
	}
	m.Emit(x)
	m.Plain(many + 1)
	for k := many; k > 0; k-- {
		m.Next(len(m.Blocks) - 1)
		m.Branch(flag, k, 2*many+2-k)
	}
	for i := range many {
		m.Values[phis[i]].Args[1] = phis[min(i+1, many-1)]
		m.Values[memories[i]].Args[1] = m.Memory
	}
	m.Next(2 * many)
	m.Ret(phis[0])
	return m
}

// fan is so many branches, all but two of which are decided, to one block with so many OpPhis.
func fan(many, phis int) *Maker {
	m := start(I64)
	no := m.Flag(0)
	end := 2*many + 1
	var takes, preds []int
	for i := range many {
		holds := no
		if i%(many-1) == 0 {
			holds = m.Bin(api.BinLt, I64, first, m.Num(uint64(i)))
		}
		side := len(m.Blocks)
		m.Branch(holds, side, side+1)
		m.Next(side - 1)
		takes, preds = append(takes, m.Num(uint64(i))), append(preds, side)
		m.Plain(end)
		m.Next(side - 1)
	}
	takes, preds = append(takes, second), append(preds, end-1)
	m.Plain(end)
	m.Next(preds...)
	for i := range phis {
		l := slices.Clone(takes)
		for at := range i % 3 * many / 2 {
			l[at] = second
		}
		m.Phi(I64, l...)
	}
	m.Ret(len(m.Values) - 1)
	return m
}

// drip is so many branches one behind the other, each of which is decided once the one ahead of it is: with each of them one block loses a way, that has so many OpPhis.
func drip(many, phis int) *Maker {
	m := start(I64)
	holds, no := m.Flag(1), m.Flag(0)
	end := 4*many + 1
	var takes, preds []int
	for range many {
		b := len(m.Blocks) - 1
		m.Branch(holds, b+1, b+2)
		m.Next(b)
		m.Plain(b + 4)
		m.Next(b)
		takes, preds = append(takes, m.Num(uint64(b))), append(preds, b+2)
		m.Branch(flag, b+3, end)
		m.Next(b + 2)
		m.Plain(b + 4)
		m.Next(b+1, b+3)
		holds = m.Phi(Yes, holds, no)
	}
	takes, preds = append(takes, second), append(preds, end-1)
	m.Plain(end)
	m.Next(preds...)
	for range phis {
		m.Phi(I64, takes...)
	}
	m.Ret(len(m.Values) - 1)
	return m
}

// greatest are Codes as great as may be.
func greatest() map[string]*Maker {
	add := func(m *Maker, x int) int { return m.Bin(api.BinAdd, I64, x, second) }
	return map[string]*Maker{
		"x + 0":     row(I64, func(m *Maker, x int) int { return m.Bin(api.BinAdd, I64, x, m.Num(0)) }),
		"0 + x":     row(I64, func(m *Maker, x int) int { return m.Bin(api.BinAdd, I64, m.Num(0), x) }),
		"-x":        row(I64, func(m *Maker, x int) int { return m.Un(api.UnNeg, I64, x) }),
		"x - x":     row(I64, func(m *Maker, x int) int { return m.Bin(api.BinSub, I64, x, x) }),
		"x + y":     row(I64, add),
		"p + 1":     row(Ptr, func(m *Maker, x int) int { return m.Addr(x, 1) }),
		"p + 40000": row(Ptr, func(m *Maker, x int) int { return m.Addr(x, 40000) }),
		"p + 0":     row(Ptr, func(m *Maker, x int) int { return m.Addr(x, 0) }),
		"p + 1 * 3": row(Ptr, func(m *Maker, x int) int { return m.Element(x, 1, m.Con(U64, 1), 3) }),
		"a choice":  row(I64, func(m *Maker, x int) int { return m.Sel(I64, flag, x, x) }),
		"cascade":   cascade((api.MaxBlocks - 2) / 3),
		"rings":     rings((api.MaxBlocks - 2) / 2),
		"fan":       fan(1000, 2000),
		"drip":      drip(1000, 1000),
	}
}

// TestSoon: P17.1: Codes as great as may be, whatever numbers their values have, are folded soon, and as they should be.
func TestSoon(t *testing.T) {
	for name, m := range greatest() {
		u := Unit(m)
		for _, u := range []api.Unit{u, back(u)} {
			begin := time.Now()
			made := folded(t, name, u)
			if d := time.Since(begin); d > 5*time.Second {
				t.Errorf("%s: %v", name, d)
			}
			t.Log(name, len(m.Values), time.Since(begin))
			args := []uint64{0, 1, 1 << 12, 3, 4}
			if wrong := compare.Kept(u, made, args, 100, api.MaxFuel); wrong != "" {
				t.Errorf("%s: %s", name, wrong)
			}
		}
	}
}

// TestMost: P17.1: as many Codes as may be, as great as may be, with as many Data as may be.
func TestMost(t *testing.T) {
	one := greatest()["x + y"]
	u := WithData(make([]byte, api.MaxCode), slices.Repeat([]*Maker{one}, api.MaxFuncs)...)
	begin := time.Now()
	made, e := fold.Run(u)
	if d := time.Since(begin); e != api.OK || d > 10*time.Second {
		t.Errorf("%d: %v", e, d)
	}
	if wrong := compare.Formed(u, made); wrong != "" {
		t.Error(wrong)
	}
	for i, c := range made.Codes {
		if left(c) != "" || compare.Count(c, api.OpBin) != compare.Count(u.Codes[i], api.OpBin) {
			t.Errorf("Code %d: %s", i, left(c))
		}
	}
}
