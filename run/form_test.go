package run

import (
	"math"
	"slices"
	"testing"

	"gantry/api"
)

// TestBeginning: P5.1; registers, data, the entry.
func TestBeginning(t *testing.T) {
	for _, target := range targets {
		for _, memory := range []int{api.MinMemory, 8197, 12288, api.MaxMemory} {
			for n := range api.ArgRegs + 1 {
				all := args(1, top, 3, 1<<63, 5, 6)[:n]
				m := begin(t, api.Image{Target: target}, memory, all...)
				for reg := range api.Regs {
					want := uint64(0)
					if reg < n {
						want = all[reg]
					}
					if reg == api.RegSP {
						want = uint64(memory)
					}
					if x := m.Reg(reg); x != want {
						t.Errorf("%d arguments: the register %d is %d", n, reg, x)
					}
				}
				if end, number := m.Ended(); end != api.EndNone || number != 0 {
					t.Errorf("at the beginning: %d, %d", end, number)
				}
			}
		}
		m := begin(t, api.Image{Target: target}, 8192, 1, 2, 3, 4, 5, 6)
		for _, n := range []int{-1, 16, 17, 255, 256, 1 << 32, math.MinInt, math.MaxInt} {
			if x := m.Reg(n); x != 0 {
				t.Errorf("the register %d is %d", n, x)
			}
		}
		first := codeOf(t, target, insts(api.Inst{Op: api.InstPanic, Imm: 1}))
		img := imageOf(t, target, api.Inst{Op: api.InstPanic, Imm: 1}, api.Inst{Op: api.InstLoad, A: 0, B: 1, K: api.KindU8}, api.Inst{Op: api.InstPanic, Imm: 2})
		img.Entry = len(first)
		img.Data = []byte{0x10, 0x20, 0x30}
		for at, want := range map[uint64]uint64{4096: 0x10, 4097: 0x20, 4098: 0x30, 4099: 0, 8191: 0} {
			m := begin(t, img, 8195, 7, at)
			if !m.Step() || m.Reg(0) != want {
				t.Errorf("at %d stands %d", at, m.Reg(0))
			}
			if end, number := m.Ended(); m.Step() || end != api.EndNone || number != 0 {
				t.Errorf("behind the first step: %d, %d", end, number)
			}
			if end, number := m.Ended(); end != api.EndPanic || number != 2 {
				t.Errorf("it has begun elsewhere: %d, %d", end, number)
			}
		}
	}
}

// given is what New and Run are given.
type given struct {
	img    api.Image
	memory int
	args   int
}

// TestNewForm: P5.1, P5.2; images, memories, arguments that may not be, and those beside them that may.
func TestNewForm(t *testing.T) {
	code, big := make([]byte, 24), make([]byte, api.MaxCode+1)
	r, c := api.TargetR, api.TargetC
	for n, x := range []given{
		{api.Image{}, 8192, 0}, {api.Image{Target: 3}, 8192, 0}, {api.Image{Target: -1}, 8192, 0}, {api.Image{Target: 1 + 1<<32}, 8192, 0},
		{api.Image{Target: r, Code: big}, 8192, 0}, {api.Image{Target: c, Data: big}, api.MaxMemory, 0}, {api.Image{Target: r, Data: big[1:]}, api.MaxMemory, 0},
		{api.Image{Target: r, Code: code, Entry: 25}, 8192, 0}, {api.Image{Target: r, Code: code, Entry: -1}, 8192, 0}, {api.Image{Target: c, Entry: 1}, 8192, 0}, {api.Image{Target: c, Entry: math.MinInt}, 8192, 0}, {api.Image{Target: c, Entry: math.MaxInt}, 8192, 0},
		{api.Image{Target: r, Code: code, Funcs: []int{0, 24, 25}}, 8192, 0}, {api.Image{Target: r, Code: code, Funcs: []int{-1, 5}}, 8192, 0}, {api.Image{Target: c, Code: code, Funcs: []int{5, math.MinInt, 6}}, 8192, 0},
		{api.Image{Target: r}, 8191, 0}, {api.Image{Target: r}, 0, 0}, {api.Image{Target: r}, -8192, 0}, {api.Image{Target: c}, api.MaxMemory + 1, 0}, {api.Image{Target: c}, math.MinInt, 0}, {api.Image{Target: c}, math.MaxInt, 0},
		{api.Image{Target: r}, 8192, 7}, {api.Image{Target: r}, 8192, 16}, {api.Image{Target: c}, 8192, 100},
		{api.Image{Target: r, Data: code[:1]}, 8192, 0}, {api.Image{Target: c, Data: code[:9]}, 8200, 0}, {api.Image{Target: c, Data: code[:2]}, 8193, 0}, {api.Image{Target: r, Data: big[:api.MaxMemory-8191]}, api.MaxMemory, 0},
	} {
		if m, e := New(x.img, x.memory, make([]uint64, x.args)); m != nil || e != api.ErrRunForm {
			t.Errorf("New of %d: %v, %d", n, m, e)
		}
		if got, e := Run(x.img, x.memory, make([]uint64, x.args), nil, 5); e != api.ErrRunForm || !same(got, api.Run{}) {
			t.Errorf("Run of %d: %+v, %d", n, got, e)
		}
	}
	for n, x := range []given{
		{api.Image{Target: r}, 8192, 0}, {api.Image{Target: c}, 8192, 6}, {api.Image{Target: r, Code: big[1:], Entry: api.MaxCode, Funcs: []int{api.MaxCode, 0, api.MaxCode}}, api.MaxMemory, 1},
		{api.Image{Target: c, Code: code, Entry: 24, Funcs: []int{24, 3, 3, 0}}, 8193, 0}, {api.Image{Target: c, Data: code[:8]}, 8200, 0}, {api.Image{Target: r, Data: code[:1]}, 8193, 0}, {api.Image{Target: r, Data: big[:api.MaxMemory-8192]}, api.MaxMemory, 0},
	} {
		if m, e := New(x.img, x.memory, make([]uint64, x.args)); m == nil || e != api.OK {
			t.Errorf("New of what may be, %d: %v, %d", n, m, e)
		}
		if got, e := Run(x.img, x.memory, make([]uint64, x.args), nil, 0); e != api.OK || !same(got, api.Run{End: api.EndFuel}) {
			t.Errorf("Run of what may be, %d: %+v, %d", n, got, e)
		}
	}
}

// TestRunForm: P5.2; fuel and calls that may not be, and those beside them that may.
func TestRunForm(t *testing.T) {
	img := api.Image{Target: api.TargetR, Code: make([]byte, 8), Funcs: []int{0, 8}}
	reg := func(n int) []api.Place { return []api.Place{{N: n}} }
	slot := func(n int) []api.Place { return []api.Place{{Stack: true, N: n}} }
	for n, x := range []struct {
		calls []api.Assign
		fuel  int
		ok    bool
	}{
		{nil, -1, false}, {nil, math.MinInt, false}, {nil, api.MaxFuel + 1, false}, {nil, math.MaxInt, false}, {nil, 0, true}, {nil, api.MaxFuel, true}, {[]api.Assign{}, 1, true},
		{[]api.Assign{{}}, 1, false}, {[]api.Assign{{}, {}, {}}, 1, false}, {[]api.Assign{{}, {}}, 1, true}, {[]api.Assign{{}, {}}, -1, false},
		{[]api.Assign{{Args: make([]api.Place, 129)}, {}}, 1, false}, {[]api.Assign{{}, {Results: make([]api.Place, 129)}}, 1, false}, {[]api.Assign{{Args: make([]api.Place, 128), Results: make([]api.Place, 128), Slots: -5}, {Slots: 1 << 40}}, 1, true},
		{[]api.Assign{{Args: reg(5), Results: reg(0)}, {}}, 1, true}, {[]api.Assign{{Args: reg(6)}, {}}, 1, false}, {[]api.Assign{{}, {Args: reg(-1)}}, 1, false}, {[]api.Assign{{Results: reg(6)}, {}}, 1, false}, {[]api.Assign{{}, {Results: reg(-1)}}, 1, false}, {[]api.Assign{{Args: reg(255)}, {}}, 1, false}, {[]api.Assign{{Args: reg(15)}, {}}, 1, false}, {[]api.Assign{{Results: append(reg(1), reg(math.MinInt)...)}, {}}, 1, false},
		{[]api.Assign{{Args: slot(255), Results: slot(0)}, {}}, 1, true}, {[]api.Assign{{}, {Args: slot(0), Results: slot(255)}}, 1, true}, {[]api.Assign{{Args: slot(256)}, {}}, 1, false}, {[]api.Assign{{}, {Args: slot(-1)}}, 1, false}, {[]api.Assign{{}, {Results: slot(256)}}, 1, false}, {[]api.Assign{{Results: slot(-1)}, {}}, 1, false}, {[]api.Assign{{Results: append(slot(1), slot(math.MaxInt)...)}, {}}, 1, false},
	} {
		got, e := Run(img, 8192, nil, x.calls, x.fuel)
		if x.ok && e != api.OK || !x.ok && (e != api.ErrRunForm || !same(got, api.Run{})) {
			t.Errorf("%d: %+v, %d", n, got, e)
		}
	}
	none := api.Image{Target: api.TargetC}
	if _, e := Run(none, 8192, nil, []api.Assign{{}}, 1); e != api.ErrRunForm {
		t.Errorf("a call of no function: %d", e)
	}
	if _, e := Run(none, 8192, nil, []api.Assign{}, 1); e != api.OK {
		t.Errorf("no call of no function: %d", e)
	}
}

// same tells whether two runs are one; a nil list and an empty one are.
func same(a, b api.Run) bool {
	calls := slices.EqualFunc(a.Calls, b.Calls, func(x, y api.Call) bool {
		return x.Func == y.Func && x.Back == y.Back && slices.Equal(x.Args, y.Args) && slices.Equal(x.Results, y.Results)
	})
	return calls && slices.Equal(a.Trace, b.Trace) && a.End == b.End && a.N == b.N && a.Steps == b.Steps
}
