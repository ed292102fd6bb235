package trial

import (
	"gantry/api"
	. "gantry/hand"
	"gantry/sample"
	"gantry/ssa"
)

// Refused holds that the pass tells ErrPassForm, and nothing beside it, of a unit.
func (p Pass) Refused(t T, name string, u api.Unit) {
	t.Helper()
	made, e := p.Run(u)
	if e != api.ErrPassForm || made.Codes != nil || made.Data != nil {
		t.Errorf("%s: %d, %+v", name, e, made)
	}
}

// fault is a small change of a Counter, and the error of it.
type fault struct {
	name   string
	change func(c *api.Code)
	e      api.Errno
}

func faults() []fault {
	return []fault{
		{"no operation", func(c *api.Code) { c.Values[7].Op = api.OpAddr + 1 }, api.ErrSSAForm},
		{"a Param of KindMem", func(c *api.Code) { c.Params[0] = Mem }, api.ErrSSAForm},
		{"no such value", func(c *api.Code) { c.Values[7].Args[0] = 99 }, api.ErrSSAForm},
		{"a value twice", func(c *api.Code) { c.Blocks[3].List = []int{9} }, api.ErrSSAForm},
		{"an OpPhi too few", func(c *api.Code) { c.Values[5].Args = []int{3} }, api.ErrSSAForm},
		{"no blocks", func(c *api.Code) { *c = api.Code{} }, api.ErrSSAForm},
		{"a way too few", func(c *api.Code) { c.Blocks[0].Succs = nil }, api.ErrSSAFlow},
		{"a block of no way", func(c *api.Code) { c.Blocks[3].Preds = []int{2} }, api.ErrSSAFlow},
		{"no word", func(c *api.Code) { c.Values[3].Kind, c.Values[3].N = Yes, 2 }, api.ErrSSAType},
		{"another kind", func(c *api.Code) { c.Values[7].Kind = I64 }, api.ErrSSAType},
		{"no such bin", func(c *api.Code) { c.Values[8].N = 99 }, api.ErrSSAType},
		{"a use ahead", func(c *api.Code) { c.Values[7].Args[0] = 8 }, api.ErrSSAOrder},
		{"itself", func(c *api.Code) { c.Values[8].Args[0] = 8 }, api.ErrSSAOrder},
		{"another memory", func(c *api.Code) { c.Blocks[3].Args[1] = 0 }, api.ErrSSAMem},
		{"a memory by one way", func(c *api.Code) { c.Values[6].Args[1] = 6 }, api.ErrSSAMem},
	}
}

// Wrong holds that ErrPassForm is told for each of ssa.Check's errors, alone and in a Code behind a right one.
func (p Pass) Wrong(t T) {
	t.Helper()
	for _, x := range faults() {
		wrong := Counter()
		x.change(&wrong.Code)
		for _, u := range []api.Unit{Unit(wrong), Unit(Counter(), wrong), Unit(wrong, wrong, Counter())} {
			if e := ssa.Check(u); e != x.e {
				t.Errorf("%s: %d, not %d", x.name, e, x.e)
			}
			p.Refused(t, x.name, u)
		}
	}
	p.Refused(t, "nothing", api.Unit{})
	p.Refused(t, "too many Codes", api.Unit{Codes: make([]api.Code, api.MaxFuncs+1)})
	p.Refused(t, "too many Data", WithData(make([]byte, api.MaxCode+1), Counter()))
	p.Hold(t, "right", Unit(Counter()), []uint64{0}, []uint64{3})
}

// Spoilt holds the pass for programs with a small change: ErrPassForm, or what is right.
func (p Pass) Spoilt(t T, turns sample.Turns) {
	t.Helper()
	told := map[api.Errno]int{}
	for range 6000 {
		u := sample.Unit(&turns)
		sample.Spoil(&turns, &u)
		e := ssa.Check(u)
		told[e]++
		if e == api.OK {
			p.Made(t, "spoilt, but right", u)
		} else {
			p.Refused(t, "spoilt", u)
		}
	}
	for _, e := range []api.Errno{api.OK, api.ErrSSAForm, api.ErrSSAFlow, api.ErrSSAType, api.ErrSSAOrder, api.ErrSSAMem} {
		if told[e] < 50 {
			t.Errorf("%d: %d times", e, told[e])
		}
	}
}
