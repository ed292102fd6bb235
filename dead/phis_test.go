package dead_test

import (
	"fmt"
	"testing"

	"gantry/api"
	. "gantry/hand"
	"gantry/sample"
	"gantry/trial"
)

// ring is a loop with so many OpPhis, each of which takes the next one's word, or what is made of it, round and round; the loop ends by an argument.
func ring(kind, many int, made, told bool) (*Maker, []int) {
	m := trial.Start(kind)
	m.Plain(1)
	m.Next(0, 2)
	var phis, l []int
	for range many {
		phis = append(phis, m.Phi(kind))
	}
	i, left := m.Phi(U64), m.Phi(Yes)
	m.Branch(left, 2, 3)
	m.Next(1)
	for k, n := range phis {
		x := phis[(k+1)%many]
		if made {
			x = m.Sel(kind, left, x, x)
			l = append(l, x)
		}
		m.Takes(n, []int{first, second}[k%2], x)
	}
	less := m.Bin(api.BinShr, U64, i, i)
	m.Takes(i, index, less)
	m.Takes(left, flag, m.Bin(api.BinLt, U64, less, i))
	m.Plain(1)
	m.Next(1)
	if told {
		trial.Tell(m, phis[many/2])
	}
	return m.Done(), append(phis, l...)
}

// TestRings: P19.1: OpPhis that only use each other go, however many they are, with what is made of them; if one is told all stay.
func TestRings(t *testing.T) {
	t.Parallel()
	turns := sample.Turns(71)
	for _, kind := range Words() {
		for many := 1; many < 6; many++ {
			for _, made := range []bool{false, true} {
				args := trial.Some(&turns, kind, 2)
				name := fmt.Sprint("kind ", kind, ", ", many, ", ", made)
				m, l := ring(kind, many, made, false)
				expect(t, name, Unit(m), append(l, first, second, point), []int{flag, index}, args...)
				m, l = ring(kind, many, made, true)
				expect(t, name+", told", Unit(m), []int{point}, append(l, first, flag, index), args...)
			}
		}
	}
}

// nest is so many loops within one another; the OpPhi of each takes that of the loop around it and that of the one within it.
func nest(deep int, told bool) (*Maker, []int) {
	m := trial.Start(I64)
	x := first
	var phis []int
	for k := 1; k <= deep; k++ {
		m.Plain(k)
		m.Next(k-1, 2*deep+1-k)
		x = m.Phi(I64, x, 0)
		phis = append(phis, x)
	}
	m.Plain(deep + 1)
	for k := deep; k > 0; k-- {
		m.Next(len(m.Blocks) - 1)
		m.Branch(flag, 2*deep+2-k, k)
	}
	for i := range deep {
		m.Values[phis[i]].Args[1] = phis[min(i+1, deep-1)]
	}
	m.Next(2 * deep)
	if told {
		m.Emit(phis[0])
	}
	return m.Done(), phis
}

// TestNests: P19.1: OpPhis of loops within loops that only use each other.
func TestNests(t *testing.T) {
	for deep := 1; deep < 5; deep++ {
		args := [][]uint64{{1, 0, 0, 5, 6}, {0, 0, 0, 5, 6}}
		m, l := nest(deep, false)
		expect(t, fmt.Sprint(deep, " loops"), Unit(m), append(l, first), []int{flag}, args...)
		m, l = nest(deep, true)
		expect(t, fmt.Sprint(deep, " loops, told"), Unit(m), []int{second}, append(l, first), args...)
	}
}

// TestTwoHeads: P19.1: OpPhis of two blocks that go to each other, neither of which dominates the other, and use each other's only.
func TestTwoHeads(t *testing.T) {
	for _, told := range []bool{false, true} {
		m := trial.Start(I64)
		m.Branch(flag, 1, 2)
		m.Next(0, 2)
		x := m.Phi(I64)
		m.Branch(flag, 2, 3)
		m.Next(0, 1)
		y := m.Phi(I64)
		m.Branch(flag, 3, 1)
		m.Next(1, 2)
		m.Takes(x, first, y)
		m.Takes(y, second, x)
		z := m.Phi(I64, x, y)
		l := []int{x, y, z, first, second}
		if told {
			m.Emit(z)
			expect(t, "two heads, told", Unit(m.Done()), []int{index, point}, l, []uint64{1, 0, 0, 5, 6}, []uint64{0, 0, 0, 5, 6})
		} else {
			expect(t, "two heads", Unit(m.Done()), l, []int{flag}, []uint64{1, 0, 0, 5, 6}, []uint64{0, 0, 0, 5, 6})
		}
	}
}

// TestOneOfMany: P19.1: of several OpPhis of a block those go that nobody needs, and the others take what they took.
func TestOneOfMany(t *testing.T) {
	for told := range 6 {
		m := trial.Start(I64)
		m.Emit(first)
		m.Branch(flag, 1, 2)
		m.Next(0)
		m.Emit(first)
		m.Plain(3)
		m.Next(0)
		m.Plain(3)
		m.Next(1, 2)
		var l []int
		memory := 0
		for k := range 6 {
			if k == 3 {
				memory = m.MemoryPhi(m.Ends[1], m.Ends[2])
			}
			l = append(l, m.Phi(I64, []int{first, second}[k%2], first))
		}
		m.Emit(l[told])
		var goes []int
		for k, n := range l {
			if k != told {
				goes = append(goes, n)
			}
		}
		expect(t, fmt.Sprint("the OpPhi ", told), Unit(m.Done()), goes, []int{l[told], memory, first}, []uint64{1, 0, 0, 5, 6}, []uint64{0, 0, 0, 5, 6})
	}
}

// TestMemoryPhis: P19.1: OpPhis of KindMem stay, in a loop that is never left, too, where nobody uses them; and so does what makes memory there.
func TestMemoryPhis(t *testing.T) {
	m := trial.Start(I64)
	m.Emit(first)
	emit := m.Memory
	m.Plain(1)
	m.Next(0, 1)
	phi := m.MemoryPhi(emit, 0)
	m.Takes(phi, emit, phi)
	other := m.Phi(I64, first, second)
	m.Plain(1)
	expect(t, "a loop of nothing", Unit(m), []int{other, flag, second}, []int{0, first, emit, phi}, []uint64{0, 0, 0, 5, 6})

	m = trial.Start(I64)
	p := m.Block(8)
	m.Plain(1)
	m.Next(0, 1)
	phi = m.MemoryPhi(m.Memory, 0)
	m.Values[phi].Args[0] = m.Ends[0]
	m.Store(p, 0, first)
	store := m.Memory
	x := m.Load(I64, p, 0)
	m.Values[phi].Args[1] = store
	m.Plain(1)
	expect(t, "a loop that stores", Unit(m), []int{x, second}, []int{p, phi, store, first}, []uint64{0, 0, 0, 5, 6})

	m = trial.Start(I64)
	m.Plain(1)
	m.Next(0, 1)
	memory := m.Memory
	m.Plain(1)
	expect(t, "a loop without an OpPhi", Unit(m), []int{flag, first}, []int{memory}, []uint64{0, 0, 0, 5, 6})
}

// TestBothWays: P19.1: an OpPhi of a block to which both ways of a BlockIf lead.
func TestBothWays(t *testing.T) {
	m := trial.Start(I64)
	m.Branch(flag, 1, 1)
	m.Next(0, 0)
	x, y := m.Phi(I64, first, second), m.Phi(I64, second, first)
	m.Ret(x)
	expect(t, "both ways", Unit(m), []int{y, index, point}, []int{x, flag, first, second}, []uint64{1, 0, 0, 5, 6}, []uint64{0, 0, 0, 5, 6})
}
