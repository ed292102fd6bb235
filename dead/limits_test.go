package dead_test

import (
	"fmt"
	"slices"
	"testing"
	"time"

	"gantry/api"
	"gantry/compare"
	. "gantry/hand"
	"gantry/trial"
)

// room tells how many more values there may be, some left for the end.
func room(m *Maker) int { return api.MaxValues - 16 - len(m.Values) }

// row is as many values as there may be, each of which is made of those before it.
func row(next func(m *Maker, x int) int) (*Maker, int) {
	m := trial.Start(I64)
	x := first
	for room(m) > 0 {
		x = next(m, x)
	}
	return m, x
}

// deep is as many blocks one behind the other as there may be, each of which lays a value that uses the one of the block ahead of it.
func deep() (*Maker, int) {
	m := trial.Start(I64)
	x := first
	for k := 1; k < api.MaxBlocks; k++ {
		x = m.Bin(api.BinSub, I64, x, second)
		m.Plain(k)
		m.Next(k - 1)
	}
	return m, x
}

// wheel is a loop with as many OpPhis as there may be, each of which takes the next one's word.
func wheel() (*Maker, int) {
	m := trial.Start(I64)
	m.Plain(1)
	m.Next(0, 1)
	var phis []int
	for room(m) > 0 {
		phis = append(phis, m.Phi(I64))
	}
	for k, n := range phis {
		m.Takes(n, second, phis[(k+1)%len(phis)])
	}
	m.Branch(flag, 2, 1)
	m.Next(1)
	return m, phis[0]
}

// chain is as many loops as there may be one behind the other, the OpPhis of each of which use each other and those of the one ahead of it.
func chain() (*Maker, int) {
	m := trial.Start(I64)
	x, y := first, second
	for k := 1; k < api.MaxBlocks-1; k++ {
		m.Plain(k)
		m.Next(k-1, k)
		p, q := m.Phi(I64), m.Phi(I64)
		m.Takes(p, x, q)
		m.Takes(q, y, p)
		x, y = p, q
		if k > 1 {
			m.Blocks[k-1].Kind, m.Blocks[k-1].Succs, m.Blocks[k-1].Args = api.BlockIf, []int{k, k - 1}, []int{flag}
		}
	}
	last := len(m.Blocks) - 1
	m.Branch(flag, last+1, last)
	m.Next(last)
	return m, x
}

// crowd is a block of as many ways as there may be to it, with as many OpPhis.
func crowd() (*Maker, int) {
	const ways, many = api.MaxBlocks / 4, 256
	m := trial.Start(I64)
	var from []int
	for k := range ways {
		m.Branch(flag, 2*k+1, 2*k+2)
		m.Next(2 * k)
		from = append(from, 2*k+1)
		m.Plain(2*ways + 1)
		m.Next(2 * k)
	}
	m.Plain(2*ways + 1)
	m.Next(append(from, 2*ways)...)
	x := 0
	for k := range many {
		x = m.Phi(I64, slices.Repeat([]int{[]int{first, second}[k%2]}, ways+1)...)
	}
	return m, x
}

// greatest are Codes as great as may be, each with a value by which all of them are needed, or some.
func greatest() map[string]func() (*Maker, int) {
	next := func(next func(m *Maker, x int) int) func() (*Maker, int) {
		return func() (*Maker, int) { return row(next) }
	}
	return map[string]func() (*Maker, int){
		"un":        next(func(m *Maker, x int) int { return m.Un(api.UnNeg, I64, x) }),
		"bin":       next(func(m *Maker, x int) int { return m.Bin(api.BinAdd, I64, x, x) }),
		"sel":       next(func(m *Maker, x int) int { return m.Sel(I64, flag, x, max(x-1, first)) }),
		"of one":    next(func(m *Maker, x int) int { return m.Bin(api.BinAdd, I64, first, second) }),
		"loads":     next(func(m *Maker, x int) int { return m.Load(I64, m.Element(m.Data(0), 0, m.Conv(U64, x), 0), 0) }),
		"constants": next(func(m *Maker, x int) int { return m.Num(uint64(x)) }),
		"deep":      deep,
		"wheel":     wheel,
		"chain":     chain,
		"crowd":     crowd,
	}
}

// TestSoon: P19.1, P19.2: Codes as great as may be, whatever numbers their values have, end soon, and as they should: all are needed by one value, or none of them.
func TestSoon(t *testing.T) {
	for name, make := range greatest() {
		for _, told := range []bool{false, true} {
			m, x := make()
			if told {
				m.Emit(x)
			}
			m.Done()
			u := WithData(append([]byte(nil), 1, 2, 3, 4, 5, 6, 7, 8), m)
			for i, u := range []api.Unit{u, trial.Back(u)} {
				name := fmt.Sprint(name, ", ", told, ", ", i)
				begin := time.Now()
				made := pass.Made(t, name, u)
				if d := time.Since(begin); d > 5*time.Second {
					t.Errorf("%s: %v", name, d)
				}
				if many := compare.Count(made.Codes[0], api.OpNone); !told && many > 5 {
					t.Errorf("%s: %d values", name, many)
				}
				trial.Keeps(t, name, u, made, []uint64{1, 1, 1 << 12, 3, 4}, 100, api.MaxFuel)
			}
		}
	}
}

// TestMost: P19.1: as many Codes as may be, as great as may be, with as many Data as may be.
func TestMost(t *testing.T) {
	var l []*Maker
	for _, name := range []string{"un", "sel", "wheel", "chain"} {
		m, x := greatest()[name]()
		l = append(l, slices.Repeat([]*Maker{m.Done()}, api.MaxFuncs/8)...)
		m, x = greatest()[name]()
		m.Emit(x)
		l = append(l, slices.Repeat([]*Maker{m.Done()}, api.MaxFuncs/8)...)
	}
	begin := time.Now()
	pass.Made(t, "most", WithData(make([]byte, api.MaxCode), l...))
	if d := time.Since(begin); d > 10*time.Second {
		t.Errorf("%v", d)
	}
}
