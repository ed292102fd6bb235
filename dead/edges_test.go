package dead_test

import (
	"fmt"
	"testing"

	"gantry/api"
	"gantry/eval"
	. "gantry/hand"
	"gantry/trial"
)

// ran tells how a unit ends, and how what the pass makes of it does.
func ran(t *testing.T, name string, u api.Unit, args []uint64) (was, made api.Run) {
	t.Helper()
	was, _ = eval.Run(u, args, 1000)
	made, _ = eval.Run(pass.Hold(t, name, u, args), args, 1000)
	return was, made
}

// TestCareful: P19.1: a division by 0 whose word nobody uses goes, where it is gone to and where it is not; one that is used stays.
func TestCareful(t *testing.T) {
	t.Parallel()
	for _, kind := range Ints() {
		for _, op := range []int64{api.BinDiv, api.BinRem} {
			for gone := range uint64(2) {
				for _, used := range []bool{false, true} {
					m := trial.Start(kind)
					m.Emit(first)
					m.Branch(flag, 1, 2)
					m.Next(0)
					x := m.Bin(op, kind, first, second)
					if used {
						m.Emit(x)
					}
					m.Done()
					m.Next(0)
					m.Done()
					was, made := ran(t, "a division", Unit(m), []uint64{gone, 0, 0, 7, 0})
					if (was.End == api.EndStuck) != (gone == 1) || (made.End == api.EndStuck) != (gone == 1 && used) || made.Trace[0] != 7 {
						t.Errorf("kind %d, %d, %d, %t: %+v, and before %+v", kind, op, gone, used, made, was)
					}
				}
			}
		}
	}
}

// TestLoads: P19.1: an OpLoad whose word nobody uses goes, of an address that is there and of one that is not.
func TestLoads(t *testing.T) {
	for _, kind := range Words() {
		for _, at := range []uint64{0, 1, 1 << 12, 1<<12 + 1, Minus(1), Minus0} {
			m := trial.Start(kind)
			m.Emit(flag)
			x := m.Load(kind, point, 0)
			m.Emit(index)
			y := m.Load(kind, point, api.MaxSize)
			z := m.Sel(kind, flag, x, y)
			m.Done()
			u := WithData(make([]byte, 8), m)
			args := []uint64{1, 3, at, 0, 0}
			expect(t, "loads", u, []int{x, y, z, point, first}, []int{flag, index}, args)
			was, made := ran(t, "loads", u, args)
			if was.End != api.EndStuck || made.End != api.EndExit || len(made.Trace) != 2 {
				t.Errorf("%+v, and before %+v", made, was)
			}
		}
	}
}

// TestAllocs: P19.1: an OpAlloc whose block nobody uses stays, of a size that ends by EndResource, too; its OpBlock goes.
func TestAllocs(t *testing.T) {
	for size, end := range map[uint64]int{0: api.EndExit, 8: api.EndExit, api.MaxMemory: api.EndResource, api.MaxMemory + 1: api.EndResource, Minus(1): api.EndResource} {
		m := trial.Start(I64)
		m.Emit(first)
		alloc := m.Alloc(index)
		block := m.Add(api.OpBlock, Ptr, 0, alloc)
		m.Done()
		args := []uint64{0, size, 0, 5, 0}
		expect(t, "an OpAlloc", Unit(m), []int{block, flag, second}, []int{alloc, index}, args)
		if was, made := ran(t, "an OpAlloc", Unit(m), args); was.End != end || made.End != end {
			t.Errorf("%d: %+v, and before %+v", size, made, was)
		}
	}
}

// TestStores: P19.1: what is stored, and nobody loads, stays.
func TestStores(t *testing.T) {
	for _, at := range []uint64{0, 1 << 12} {
		m := trial.Start(I64)
		m.Store(point, 0, first)
		store := m.Memory
		m.Store(point, 0, second)
		expect(t, "stores", WithData(make([]byte, 8), m.Done()), []int{flag, index}, []int{store, m.Memory, first, second, point}, []uint64{0, 0, at, 5, 6})
	}
}

// TestCalls: P19.1: an OpCall stays, whatever it calls, and what is handed over; its OpResults go of which nobody makes use.
func TestCalls(t *testing.T) {
	pair := Function([]int{I64, I64}, []int{I64, I64})
	pair.Ret(2, 1)
	nothing := Function([]int{I64}, nil)
	nothing.Ret()
	for used := range 3 {
		m := trial.Start(I64)
		call := m.Call(1, first, second)
		l := []int{m.Result(I64, call, 0), m.Result(I64, call, 1), m.Result(I64, call, 1)}
		other := m.Call(2, m.Conv(I64, index))
		m.Emit(l[used])
		goes := []int{l[(used+1)%3], l[(used+2)%3], flag, point}
		u := Unit(caller(I64, I64), pair, nothing, m.Done())
		expect(t, fmt.Sprint("the OpResult ", used), u, goes, []int{call, other, l[used], first, second, index}, []uint64{0, 3, 0, 5, 6})
	}
}

// TestSelfCall: P19.1: a function that calls itself without end, and uses nothing that it tells.
func TestSelfCall(t *testing.T) {
	m := Begin(I64)
	m.Call(0, 1)
	call := m.Memory
	x := m.Result(I64, call, 0)
	y := m.Bin(api.BinAdd, I64, x, 1)
	expect(t, "itself", Unit(m.Done()), []int{x, y}, []int{call, 1}, []uint64{3})
}

// TestAllGo: P19.1: Codes of which every value goes but OpInit.
func TestAllGo(t *testing.T) {
	full := func(results ...int) *Maker {
		m := Function([]int{I64, Ptr, Yes}, results)
		x := m.Bin(api.BinRem, I64, m.Num(7), 1)
		m.Sel(I64, 3, x, m.Load(I64, m.Addr(2, 7), 6))
		m.Data(1)
		return m
	}
	panics := full(I64)
	panics.Panics(9)
	around := full(I64)
	around.Plain(1)
	around.Next(0, 1)
	around.Phi(I64, 1, 4)
	around.Plain(1)
	returns := full()
	returns.Ret()
	for name, m := range map[string]*Maker{"a panic": panics, "round and round": around} {
		all := len(m.Values) - 1
		pass.Loses(t, name, WithData([]byte{5}, m, returns), all+len(returns.Values)-1, []uint64{3, 0, 1})
		made := pass.Made(t, name, WithData([]byte{5}, m))
		for n, v := range made.Codes[0].Values {
			if (n == 0) != (v.Op == api.OpInit) || n > 0 && v.Op != api.OpNone {
				t.Errorf("%s: the value %d: %+v", name, n, v)
			}
		}
		for b, x := range made.Codes[0].Blocks {
			if b == 0 && len(x.List) != 1 || b > 0 && len(x.List) != 0 {
				t.Errorf("%s: %+v", name, made)
			}
		}
	}
}

// TestHoles: P19.2: holes that were there before stay holes; the others keep their numbers.
func TestHoles(t *testing.T) {
	m := trial.Start(I64)
	m.Values = append(m.Values, api.Value{}, api.Value{})
	x := m.Bin(api.BinAdd, I64, first, second)
	y := m.Bin(api.BinSub, I64, first, second)
	m.Values = append(m.Values, api.Value{})
	m.Plain(3)
	m.Next(0)
	m.Blocks[1] = api.Block{}
	m.Next(0)
	m.Blocks[2] = api.Block{}
	m.Next(0)
	m.Emit(y)
	emit := m.Memory
	m.Done()
	m.Values = append(m.Values, api.Value{})
	m.Blocks = append(m.Blocks, api.Block{})
	expect(t, "holes", Unit(m), []int{x, flag}, []int{y, first, second, emit}, []uint64{0, 0, 0, 7, 3})
}

// TestCodes: P19.1: several Codes, each of which has what it needs.
func TestCodes(t *testing.T) {
	one := func(told int) *Maker {
		m := trial.Start(I64)
		l := []int{m.Bin(api.BinAdd, I64, first, second), m.Bin(api.BinSub, I64, first, second), m.Bin(api.BinMul, I64, first, second)}
		m.Ret(l[told])
		return m
	}
	made := pass.Goes(t, "Codes", Unit(one(0), one(1), one(2)), []uint64{0, 0, 0, 7, 3})
	for i, c := range made.Codes {
		for k := range 3 {
			if is := c.Values[second+1+k].Op != api.OpNone; is != (i == k) {
				t.Errorf("%d, %d: %+v", i, k, made)
			}
		}
	}
}

// TestRows: P19.1: rows of values each of which is used by the next alone; only the last one is not needed, or is.
func TestRows(t *testing.T) {
	links := map[string]func(m *Maker, x int) int{
		"un":     func(m *Maker, x int) int { return m.Un(api.UnNeg, I64, x) },
		"bin":    func(m *Maker, x int) int { return m.Bin(api.BinSub, I64, x, x) },
		"second": func(m *Maker, x int) int { return m.Bin(api.BinSub, I64, second, x) },
		"conv":   func(m *Maker, x int) int { return m.Conv(I64, m.Conv(U8, x)) },
		"sel":    func(m *Maker, x int) int { return m.Sel(I64, m.Bin(api.BinLt, I64, x, second), second, first) },
		"load": func(m *Maker, x int) int {
			return m.Conv(I64, m.Load(U8, m.Element(m.Data(0), 1, m.Conv(U64, m.Bin(api.BinAnd, I64, x, m.Num(1))), 2), 3))
		},
		"far": func(m *Maker, x int) int {
			b := len(m.Blocks)
			m.Plain(b)
			m.Next(b - 1)
			return m.Un(api.UnCom, I64, x)
		},
	}
	for name, link := range links {
		for _, told := range []bool{false, true} {
			m := trial.Start(I64)
			from := len(m.Values)
			x := first
			for range 20 {
				x = link(m, x)
			}
			var l []int
			for n := from; n < len(m.Values); n++ {
				l = append(l, n)
			}
			goes, stays := append(l, second), []int{first}
			if told {
				goes, stays = nil, l
			}
			if m.Emit(first); told {
				m.Emit(x)
			}
			expect(t, fmt.Sprint(name, ", ", told), WithData([]byte("some data"), m.Done()), goes, stays, []uint64{0, 0, 0, 7, 3})
		}
	}
}
