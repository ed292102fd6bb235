package run

import (
	"math"
	"testing"

	"gantry/api"
)

// ending is a program, and by what its last step ends.
type ending struct {
	on     []int
	memory int
	args   []uint64
	l      []api.Inst
	end    int
	number int64
	steps  int
}

func movI(a int, n int64) api.Inst { return api.Inst{Op: api.InstMovI, A: a, Imm: n} }

// checkEndings goes each program step by step and by Run; an end stays, whatever is done behind it.
func checkEndings(t *testing.T, l []ending) {
	t.Helper()
	for n, c := range l {
		for _, target := range c.on {
			img := imageOf(t, target, c.l...)
			m := begin(t, img, c.memory, c.args...)
			for range c.steps - 1 {
				end, number := m.Ended()
				if !m.Step() || end != api.EndNone || number != 0 {
					t.Errorf("%d on %d: it has ended too early: %d, %d", n, target, end, number)
				}
			}
			for range 3 {
				if m.Step() {
					t.Errorf("%d on %d goes on", n, target)
				}
				if end, number := m.Ended(); end != c.end || number != c.number {
					t.Errorf("%d on %d: %d, %d, want %d, %d", n, target, end, number, c.end, c.number)
				}
			}
			r, e := Run(img, c.memory, c.args, nil, 1000)
			if e != api.OK || r.End != c.end || r.N != c.number || r.Steps != c.steps || len(r.Trace) != 0 || len(r.Calls) != 0 {
				t.Errorf("%d on %d: Run: %+v, %d", n, target, r, e)
			}
		}
	}
}

// TestExitPanic: P5.1; InstExit tells a signed number, InstPanic its own.
func TestExitPanic(t *testing.T) {
	exit := func(a int) []api.Inst { return insts(api.Inst{Op: api.InstExit, A: a}) }
	checkEndings(t, []ending{
		{targets, 8192, args(0, 7), exit(1), api.EndExit, 7, 1}, {targets, 8192, args(0, top), exit(1), api.EndExit, -1, 1}, {targets, 8192, args(0, 1<<63), exit(1), api.EndExit, math.MinInt64, 1}, {targets, 8192, nil, exit(15), api.EndExit, 8192, 1}, {targets, 8192, nil, exit(14), api.EndExit, 0, 1},
		{targets, 8192, nil, insts(api.Inst{Op: api.InstPanic, Imm: 3}), api.EndPanic, 3, 1}, {targets, 8192, nil, insts(api.Inst{Op: api.InstPanic, Imm: math.MaxInt32}), api.EndPanic, math.MaxInt32, 1},
	})
}

// TestStuckWords: P5.1; an operation that tells an error, flags that there are not, or that do not say it.
func TestStuckWords(t *testing.T) {
	r, c := []int{api.TargetR}, []int{api.TargetC}
	three := func(sub, k int) []api.Inst {
		return insts(api.Inst{Op: api.InstBin, A: 2, B: 0, C: 1, K: k, Sub: sub})
	}
	two := func(sub, k int) []api.Inst { return insts(api.Inst{Op: api.InstBin, A: 0, B: 1, K: k, Sub: sub}) }
	flags := func(k, sub int) []api.Inst {
		return insts(api.Inst{Op: api.InstCmp, K: k}, api.Inst{Op: api.InstSet, A: 1, Sub: sub})
	}
	checkEndings(t, []ending{
		{r, 8192, args(300, 0), three(api.BinDiv, api.KindU8), api.EndStuck, 0, 1}, {r, 8192, args(300, 256), three(api.BinRem, api.KindI8), api.EndStuck, 0, 1}, {r, 8192, args(1, 1<<32), three(api.BinDiv, api.KindU32), api.EndStuck, 0, 1},
		{c, 8192, args(300, 0), two(api.BinDiv, api.KindI64), api.EndStuck, 0, 1}, {c, 8192, args(300, 512), two(api.BinRem, api.KindU8), api.EndStuck, 0, 1},
		{c, 8192, nil, insts(api.Inst{Op: api.InstSet, Sub: api.BinEq}), api.EndStuck, 0, 1}, {c, 8192, nil, insts(api.Inst{Op: api.InstSel, Sub: api.BinNe}), api.EndStuck, 0, 1}, {c, 8192, nil, insts(api.Inst{Op: api.InstJcc, Sub: api.BinGe}), api.EndStuck, 0, 1},
		{c, 8192, nil, flags(api.KindPtr, api.BinLt), api.EndStuck, 0, 2}, {c, 8192, nil, flags(api.KindBool, api.BinGe), api.EndStuck, 0, 2}, {c, 8192, nil, insts(api.Inst{Op: api.InstCmp, K: api.KindPtr}, api.Inst{Op: api.InstSel, Sub: api.BinGt}), api.EndStuck, 0, 2}, {c, 8192, nil, insts(api.Inst{Op: api.InstCmp, K: api.KindBool}, api.Inst{Op: api.InstJcc, Sub: api.BinLe, Imm: 1}), api.EndStuck, 0, 2},
	})
}

// TestStuckAddresses: P5.1; addresses that are not there, of each instruction that has one.
func TestStuckAddresses(t *testing.T) {
	c := []int{api.TargetC}
	at := func(op, k int, n int64) []api.Inst { return insts(api.Inst{Op: op, A: 0, B: 1, K: k, Imm: n}) }
	atX := func(op, k, scale int, n int64) []api.Inst {
		return insts(api.Inst{Op: op, A: 0, B: 1, C: 2, Scale: scale, K: k, Imm: n})
	}
	var l []ending
	for _, op := range []int{api.InstLoad, api.InstStore} {
		for _, x := range []struct {
			base uint64
			k    int
			n    int64
		}{{0, api.KindU8, 0}, {4096, api.KindU8, -1}, {8192, api.KindU8, 0}, {8192, api.KindU64, -7}, {8192, api.KindBool, 0}, {top, api.KindU64, 0}, {top, api.KindU8, 4096}, {1 << 63, api.KindI16, 5}} {
			l = append(l, ending{targets, 8192, args(0, x.base), at(op, x.k, x.n), api.EndStuck, 0, 1})
		}
	}
	for _, op := range []int{api.InstLoadX, api.InstStoreX} {
		l = append(l, ending{c, 8192, args(0, 4096, top), atX(op, api.KindU8, 1, 0), api.EndStuck, 0, 1}, ending{c, 8192, args(0, 4096, 512), atX(op, api.KindU8, 8, 0), api.EndStuck, 0, 1}, ending{c, 8192, args(0, 4096, 511), atX(op, api.KindU64, 8, 1), api.EndStuck, 0, 1})
	}
	binM := insts(api.Inst{Op: api.InstBinM, A: 0, B: 1, K: api.KindU64, Sub: api.BinAdd, Imm: 1})
	l = append(l, ending{c, 8192, args(0, 8184), binM, api.EndStuck, 0, 1}, ending{c, 8192, args(0, 4094), binM, api.EndStuck, 0, 1})
	ret, call := api.Inst{Op: api.InstRet}, api.Inst{Op: api.InstCall}
	l = append(l, ending{targets, 8192, nil, insts(ret), api.EndStuck, 0, 1}, ending{targets, 8192, nil, insts(movI(15, 8185), ret), api.EndStuck, 0, 2}, ending{targets, 8192, nil, insts(movI(15, 4095), ret), api.EndStuck, 0, 2})
	l = append(l, ending{targets, 8192, nil, insts(movI(15, 8201), call), api.EndStuck, 0, 2}, ending{targets, 8192, nil, insts(movI(15, 0), call), api.EndStuck, 0, 2}, ending{targets, 8192, nil, insts(movI(15, 7), call), api.EndStuck, 0, 2}, ending{targets, 8192, nil, insts(movI(15, -1), call), api.EndStuck, 0, 2})
	checkEndings(t, l)
}

// TestStuckPlaces: P5.1; places at which no instruction stands: behind the code, ahead of it, where another one's bytes are.
func TestStuckPlaces(t *testing.T) {
	r, c := []int{api.TargetR}, []int{api.TargetC}
	jump := func(n int64) []api.Inst { return insts(api.Inst{Op: api.InstJmp, Imm: n}) }
	ret := func(n int64) []api.Inst {
		return insts(movI(0, n), movI(15, 4104), api.Inst{Op: api.InstStore, A: 0, B: 15, K: api.KindU64}, api.Inst{Op: api.InstRet})
	}
	checkEndings(t, []ending{
		{targets, 8192, nil, nil, api.EndStuck, 0, 1}, {targets, 8192, nil, insts(movI(1, 1)), api.EndStuck, 0, 2},
		{r, 8192, nil, jump(0), api.EndStuck, 0, 2}, {r, 8192, nil, jump(1), api.EndStuck, 0, 2}, {r, 8192, nil, jump(-1), api.EndStuck, 0, 2}, {r, 8192, nil, jump(-9), api.EndStuck, 0, 2}, {r, 8192, nil, jump(math.MinInt32), api.EndStuck, 0, 2}, {r, 8192, nil, jump(math.MaxInt32), api.EndStuck, 0, 2},
		{c, 8192, nil, jump(0), api.EndStuck, 0, 2}, {c, 8192, nil, jump(-4), api.EndStuck, 0, 2}, {c, 8192, nil, jump(-2), api.EndStuck, 0, 2}, {c, 8192, nil, jump(math.MinInt32), api.EndStuck, 0, 2}, {c, 8192, nil, jump(math.MaxInt32), api.EndStuck, 0, 2},
		{targets, 8192, nil, ret(-1), api.EndStuck, 0, 5}, {targets, 8192, nil, ret(1 << 30), api.EndStuck, 0, 5}, {targets, 8192, nil, ret(math.MinInt32), api.EndStuck, 0, 5}, {r, 8192, nil, ret(32), api.EndStuck, 0, 5},
	})
	img := imageOf(t, api.TargetR, movI(1, 1))
	for n := range 8 {
		short := api.Image{Target: api.TargetR, Code: img.Code[:n]}
		if r, e := Run(short, 8192, nil, nil, 9); e != api.OK || r.End != api.EndStuck || r.Steps != 1 {
			t.Errorf("%d bytes of an instruction: %+v, %d", n, r, e)
		}
	}
	for _, target := range targets {
		for _, b := range []byte{0, 30, 255} {
			wrong := api.Image{Target: target, Code: []byte{b, 0, 0, 0, 0, 0, 0, 0}}
			if r, e := Run(wrong, 8192, nil, nil, 9); e != api.OK || r.End != api.EndStuck || r.Steps != 1 {
				t.Errorf("the code %d on %d: %+v, %d", b, target, r, e)
			}
		}
	}
}

// TestStack: P5.1; InstCall and InstChk at the limit, InstCall's slot, InstRet.
func TestStack(t *testing.T) {
	chk := func(n int64) []api.Inst { return insts(api.Inst{Op: api.InstChk, Imm: n}) }
	call := api.Inst{Op: api.InstCall}
	var l []ending
	for _, memory := range []int{8192, 8197, 16384, api.MaxMemory} {
		limit := int64(memory - api.StackBytes)
		l = append(l, ending{targets, memory, nil, chk(4097), api.EndResource, 0, 1}, ending{targets, memory, nil, append(chk(4096), api.Inst{Op: api.InstExit}), api.EndExit, 0, 2}, ending{targets, memory, nil, chk(math.MaxInt32), api.EndResource, 0, 1}, ending{targets, memory, nil, append(insts(movI(15, -1)), append(chk(math.MaxInt32), api.Inst{Op: api.InstExit})...), api.EndExit, 0, 3})
		l = append(l, ending{targets, memory, nil, append(insts(movI(15, limit-1)), chk(0)...), api.EndResource, 0, 2}, ending{targets, memory, nil, append(append(insts(movI(15, limit)), chk(0)...), api.Inst{Op: api.InstExit}), api.EndExit, 0, 3})
		l = append(l, ending{targets, memory, nil, insts(movI(15, limit+7), call), api.EndResource, 0, 2}, ending{targets, memory, nil, insts(movI(15, limit+8), call, api.Inst{Op: api.InstExit}), api.EndExit, 0, 3}, ending{targets, memory, nil, insts(movI(15, 8), call), api.EndResource, 0, 2})
	}
	checkEndings(t, l)
	for _, target := range targets {
		far := map[int]int64{api.TargetR: 16, api.TargetC: 5}[target]
		m := begin(t, imageOf(t, target, api.Inst{Op: api.InstCall, Imm: far}, movI(1, 5), api.Inst{Op: api.InstExit, A: 2}, api.Inst{Op: api.InstLoad, A: 2, B: 15, K: api.KindU64}, api.Inst{Op: api.InstRet}), 8200)
		back := map[int]uint64{api.TargetR: 8, api.TargetC: 5}[target]
		for n, sp := range []uint64{8192, 8192, 8200, 8200} {
			if !m.Step() || m.Reg(15) != sp {
				t.Errorf("on %d, step %d: RegSP is %d, want %d", target, n, m.Reg(15), sp)
			}
		}
		if m.Reg(2) != back || m.Reg(1) != 5 {
			t.Errorf("on %d: the place to go back to is %d, want %d; the register 1 is %d", target, m.Reg(2), back, m.Reg(1))
		}
		if end, number := m.Ended(); m.Step() || end != api.EndNone || number != 0 {
			t.Errorf("on %d: %d, %d", target, end, number)
		}
		low := begin(t, imageOf(t, target, movI(15, 4101), call), 8192)
		if low.Step(); low.Step() || low.Reg(15) != 4093 {
			t.Errorf("on %d: behind an InstCall below the limit RegSP is %d", target, low.Reg(15))
		}
	}
}

// TestAlloc: P5.1; what InstAlloc rounds, where it begins, where it ends.
func TestAlloc(t *testing.T) {
	alloc := func(a, b int) api.Inst { return api.Inst{Op: api.InstAlloc, A: a, B: b} }
	for _, target := range targets {
		for _, c := range []struct {
			data     int
			size     uint64
			at, next uint64
		}{{0, 0, 4096, 4104}, {0, 1, 4096, 4104}, {0, 8, 4096, 4104}, {0, 9, 4096, 4112}, {1, 16, 4104, 4120}, {8, 17, 4104, 4128}, {9, 3, 4112, 4120}, {15, 4000, 4112, 8112}, {16, 1, 4112, 4120}} {
			img := imageOf(t, target, alloc(1, 0), alloc(2, 3), alloc(0, 0))
			img.Data = make([]byte, c.data)
			m := begin(t, img, 16384, c.size)
			if !m.Step() || !m.Step() || !m.Step() || m.Reg(1) != c.at || m.Reg(2) != c.next || m.Reg(0) != c.next+8 {
				t.Errorf("%d bytes behind %d: at %d, the next at %d, at %d", c.size, c.data, m.Reg(1), m.Reg(2), m.Reg(0))
			}
		}
		for _, c := range []struct {
			memory, data int
			size         uint64
			ok           bool
		}{
			{16384, 0, 8192, true}, {16384, 0, 8193, false}, {16384, 8, 8184, true}, {16384, 8, 8185, false}, {16384, 1, 8184, true}, {16384, 1, 8185, false}, {16385, 0, 8193, false}, {16391, 0, 8193, false}, {16392, 0, 8193, true},
			{16384, 0, 1 << 20, false}, {16384, 0, 1<<20 + 1, false}, {16384, 0, 1 << 63, false}, {16384, 0, top, false}, {16384, 0, top - 7, false}, {16384, 0, top - 6, false}, {16384, 0, top - 4095, false}, {16384, 0, top - 4096, false}, {8192, 0, 0, false}, {8193, 1, 0, false}, {8200, 0, 1, true}, {8200, 1, 1, false},
			{api.MaxMemory, 0, api.MaxMemory - 8192, true}, {api.MaxMemory, 0, api.MaxMemory - 8191, false}, {api.MaxMemory, 0, api.MaxMemory, false},
		} {
			img := imageOf(t, target, alloc(1, 0), api.Inst{Op: api.InstExit, A: 1})
			img.Data = make([]byte, c.data)
			m := begin(t, img, c.memory, c.size, 77)
			ok := m.Step()
			end, number := m.Ended()
			if ok != c.ok || number != 0 || !ok && (end != api.EndResource || m.Reg(1) != 77) {
				t.Errorf("%d bytes of %d behind %d: %v, %d, the register is %d", c.size, c.memory, c.data, ok, end, m.Reg(1))
			}
		}
	}
}
