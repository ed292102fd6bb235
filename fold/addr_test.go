package fold_test

import (
	"fmt"
	"math"
	"testing"

	"gantry/api"
	"gantry/compare"
	. "gantry/hand"
)

// pointers are arguments of a function that start begins, of KindPtr.
func pointers() [][]uint64 { return all(Ptr) }

// TestFar: P17.1: an OpAddr with an OpConst goes, if N + M of it is from 0 to MaxSize, and stays else.
func TestFar(t *testing.T) {
	t.Parallel()
	for _, x := range []struct {
		n, m int
		c    uint64
		goes bool
	}{
		{0, 0, 0, true}, {0, 0, 5, true}, {0, 0, math.MaxUint64, true}, {7, 0, 1 << 63, true}, {api.MaxSize, 0, 9, true},
		{0, 1, 0, true}, {0, api.MaxSize, 0, true}, {api.MaxSize, api.MaxSize, 0, true}, {0, 8, 3, true}, {16, 8, 3, true},
		{0, 1, api.MaxSize, true}, {0, 1, api.MaxSize + 1, false}, {0, api.MaxSize, 1, true}, {0, api.MaxSize, 2, false}, {1, api.MaxSize, 1, false},
		{api.MaxSize - 8, 8, 1, true}, {api.MaxSize - 7, 8, 1, false}, {api.MaxSize, 1, 1, false}, {api.MaxSize - 1, 1, 1, true},
		{0, 1, Minus(1), false}, {4, 1, Minus(5), false}, {0, 8, Minus(1), false}, {api.MaxSize, 1, Minus(api.MaxSize + 1), false}, {15, 8, Minus(2), false},
		{0, 1, 1 << 63, false}, {0, 1, 1<<63 - 1, false}, {0, 2, 1<<62 + 1, false}, {0, 1, math.MaxUint32, false}, {0, 1 << 15, 1 << 48, false}, {8, 1 << 15, 1 << 48, false},
		{0, api.MaxSize, 1 << 47, false}, {0, 3, math.MaxUint64, false},
	} {
		m := start(Ptr)
		tell(m, m.Element(first, int64(x.n), m.Con(U64, x.c), x.m))
		name := fmt.Sprint(x)
		u := Unit(m.Done())
		if !x.goes {
			stays(t, name, u, pointers()...)
			continue
		}
		c := goes(t, name, u, pointers()...).Codes[0]
		far, found := int64(x.n)+int64(x.m)*int64(x.c), 0
		for _, v := range c.Values {
			if v.Op == api.OpAddr {
				found++
				if far == 0 || v.N != far || len(v.Args) != 1 {
					t.Errorf("%s: %+v", name, v)
				}
			}
		}
		if far != 0 && found != 1 {
			t.Errorf("%s: %d OpAddrs", name, found)
		}
	}
}

// TestRound: P17.1: N + M of it is from 0 to MaxSize only as it wraps round: whether it goes or stays, the address is the same.
func TestRound(t *testing.T) {
	t.Parallel()
	for _, x := range []struct {
		n, m int
		c    uint64
	}{
		{4, 1, Minus(4)}, {5, 1, Minus(4)}, {api.MaxSize, 1, Minus(api.MaxSize)}, {api.MaxSize, 8, Minus(1)}, {16, 8, Minus(2)}, {17, 8, Minus(2)},
		{0, 2, 1 << 63}, {24, 2, 1 << 63}, {0, 4, 1<<62 + 6}, {0, api.MaxSize, 1 << 48}, {24, api.MaxSize, 1 << 48}, {0, 8, 1<<61 + 3}, {8, 1 << 15, 1 << 49}, {0, api.MaxSize, 1<<48 + 1},
	} {
		m := start(Ptr)
		tell(m, m.Element(first, int64(x.n), m.Con(U64, x.c), x.m))
		hold(t, fmt.Sprint(x), Unit(m.Done()), pointers()...)
	}
}

// TestAddrOfAddr: P17.1: OpAddrs one on the other, as far as their Ns' sum is no more than MaxSize.
func TestAddrOfAddr(t *testing.T) {
	t.Parallel()
	for _, x := range []struct {
		l    []int64 // Ns, the innermost first
		left int     // how many of them are left; -1: that hangs on which ones are joined first
	}{
		{[]int64{8, 16}, 1}, {[]int64{0, 16}, 1}, {[]int64{8, 0}, 1}, {[]int64{0, 0}, 0}, {[]int64{0, 0, 0, 0}, 0}, {[]int64{1, 2, 3, 4, 5}, 1},
		{[]int64{api.MaxSize, 0}, 1}, {[]int64{0, api.MaxSize}, 1}, {[]int64{api.MaxSize - 1, 1}, 1}, {[]int64{1, api.MaxSize - 1}, 1}, {[]int64{1 << 15, 1 << 15}, 1},
		{[]int64{api.MaxSize, 1}, 2}, {[]int64{1, api.MaxSize}, 2}, {[]int64{api.MaxSize, api.MaxSize}, 2}, {[]int64{api.MaxSize, api.MaxSize, api.MaxSize}, 3},
		{[]int64{api.MaxSize, 1, 2, 3}, 2}, {[]int64{1, 2, 3, api.MaxSize}, 2}, {[]int64{40000, 20000, 20000, 40000}, -1}, {[]int64{1, api.MaxSize, 1, api.MaxSize, 1}, -1},
	} {
		m := start(Ptr)
		p := first
		for _, n := range x.l {
			p = m.Addr(p, n)
		}
		tell(m, p)
		m.Store(m.Block(8), 0, p)
		u := Unit(m.Done())
		for _, u := range []api.Unit{u, back(u)} {
			made := hold(t, fmt.Sprint(x.l), u, pointers()...)
			c := made.Codes[0]
			many, at := 0, 0
			for _, v := range c.Values {
				if v.Op == api.OpStore {
					at = v.Args[1]
				}
			}
			for c.Values[at].Op == api.OpAddr {
				many++
				at = c.Values[at].Args[0]
			}
			if x.left >= 0 && many != x.left || c.Values[at].Op != api.OpArg {
				t.Errorf("%d: %d OpAddrs one on the other: %+v", x.l, many, c)
			}
		}
	}
}

// TestAddrs: P17.1: OpAddrs with an OpConst that is found by and by, on OpDatas, OpBlocks, OpAddrs with an index; one that has an index which nobody knows stays.
func TestAddrs(t *testing.T) {
	t.Parallel()
	m := start(Ptr)
	three := m.Bin(api.BinAdd, U64, m.Con(U64, 1), m.Con(U64, 2))
	zero := m.Bin(api.BinSub, U64, index, index)
	b := m.Block(64)
	for _, p := range []int{first, m.Data(2), b, m.Element(first, 0, index, 0), m.Element(first, 4, index, 8)} {
		p = m.Element(p, 8, three, 8)
		p = m.Addr(m.Element(p, 0, zero, 8), 4)
		tell(m, p)
		tell(m, m.Element(p, 0, zero, 1))
	}
	m.Store(m.Element(b, 8, three, 8), 8, three)
	m.Emit(m.Load(U64, m.Addr(m.Addr(b, 16), 24), 0))
	c := goes(t, "addresses", WithData([]byte("text"), m.Done()), pointers()...).Codes[0]
	if many := compare.Count(c, api.OpAddr); many < 2 {
		t.Errorf("%d OpAddrs", many)
	}
	m = start(Ptr)
	tell(m, m.Element(first, 0, index, 0))
	tell(m, m.Element(first, 8, index, 8))
	tell(m, m.Element(m.Addr(first, 8), 8, index, 8))
	tell(m, m.Addr(m.Element(first, 8, index, 8), 8))
	stays(t, "an index that nobody knows", Unit(m.Done()), pointers()...)
}

// TestAddrsLater: P17.1: OpAddrs on an OpPhi of which it is known late that it is an OpAddr, with an index that is an OpConst as late.
func TestAddrsLater(t *testing.T) {
	t.Parallel()
	for c := range uint64(2) {
		m := start(Ptr)
		p, q := m.Addr(first, 8), m.Addr(second, 16)
		three, five := m.Con(U64, 3), m.Con(U64, 5)
		m.Branch(m.Flag(c), 1, 2)
		m.Next(0)
		m.Plain(3)
		m.Next(0)
		m.Plain(3)
		m.Next(1, 2)
		r, i := m.Phi(Ptr, p, q), m.Phi(U64, three, five)
		a := m.Addr(r, 24)
		b := m.Addr(a, 32)
		d := m.Element(b, 40, i, 8)
		last := m.Addr(d, 48)
		for _, n := range []int{a, b, d, last} {
			tell(m, n)
		}
		made := goes(t, fmt.Sprint(c), Unit(m.Done()), pointers()...)
		for _, v := range made.Codes[0].Values {
			if v.Op == api.OpAddr && (len(v.Args) > 1 || made.Codes[0].Values[v.Args[0]].Op != api.OpArg) {
				t.Errorf("%d: %+v: %+v", c, v, made)
			}
		}
	}
}
