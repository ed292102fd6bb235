package fold_test

import (
	"testing"

	"gantry/api"
	"gantry/fold"
	. "gantry/hand"
	"gantry/sample"
	"gantry/ssa"
)

// refused holds that the pass tells ErrPassForm, and nothing beside it, of a unit that ssa.Check refuses.
func refused(t *testing.T, name string, u api.Unit) {
	t.Helper()
	made, e := fold.Run(u)
	if e != api.ErrPassForm || made.Codes != nil || made.Data != nil {
		t.Errorf("%s: %d, %+v", name, e, made)
	}
}

// TestWrong: P17.1: ErrPassForm for each of ssa.Check's errors, alone and in a Code behind a right one.
func TestWrong(t *testing.T) {
	for name, x := range map[string]struct {
		change func(c *api.Code)
		e      api.Errno
	}{
		"no operation":        {func(c *api.Code) { c.Values[7].Op = api.OpAddr + 1 }, api.ErrSSAForm},
		"a Param of KindMem":  {func(c *api.Code) { c.Params[0] = Mem }, api.ErrSSAForm},
		"no such value":       {func(c *api.Code) { c.Values[7].Args[0] = 99 }, api.ErrSSAForm},
		"a value twice":       {func(c *api.Code) { c.Blocks[3].List = []int{9} }, api.ErrSSAForm},
		"an OpPhi too few":    {func(c *api.Code) { c.Values[5].Args = []int{3} }, api.ErrSSAForm},
		"no blocks":           {func(c *api.Code) { *c = api.Code{} }, api.ErrSSAForm},
		"a way too few":       {func(c *api.Code) { c.Blocks[0].Succs = nil }, api.ErrSSAFlow},
		"a block of no way":   {func(c *api.Code) { c.Blocks[3].Preds = []int{2} }, api.ErrSSAFlow},
		"no word":             {func(c *api.Code) { c.Values[3].Kind, c.Values[3].N = Yes, 2 }, api.ErrSSAType},
		"another kind":        {func(c *api.Code) { c.Values[7].Kind = I64 }, api.ErrSSAType},
		"no such bin":         {func(c *api.Code) { c.Values[8].N = 99 }, api.ErrSSAType},
		"a use ahead":         {func(c *api.Code) { c.Values[7].Args[0] = 8 }, api.ErrSSAOrder},
		"itself":              {func(c *api.Code) { c.Values[8].Args[0] = 8 }, api.ErrSSAOrder},
		"another memory":      {func(c *api.Code) { c.Blocks[3].Args[1] = 0 }, api.ErrSSAMem},
		"a memory by one way": {func(c *api.Code) { c.Values[6].Args[1] = 6 }, api.ErrSSAMem},
	} {
		wrong := Counter()
		x.change(&wrong.Code)
		for _, u := range []api.Unit{Unit(wrong), Unit(Counter(), wrong), Unit(wrong, wrong, Counter())} {
			if e := ssa.Check(u); e != x.e {
				t.Errorf("%s: %d, not %d", name, e, x.e)
			}
			refused(t, name, u)
		}
	}
	refused(t, "nothing", api.Unit{})
	refused(t, "too many Codes", api.Unit{Codes: make([]api.Code, api.MaxFuncs+1)})
	refused(t, "too many Data", WithData(make([]byte, api.MaxCode+1), Counter()))
	stays(t, "right", Unit(Counter()), []uint64{0}, []uint64{3})
}

// TestSpoilt: P17.1: programs with a small change: ErrPassForm, or what is right.
func TestSpoilt(t *testing.T) {
	t.Parallel()
	turns := sample.Turns(35)
	told := map[api.Errno]int{}
	for range 6000 {
		u := sample.Unit(&turns)
		sample.Spoil(&turns, &u)
		e := ssa.Check(u)
		told[e]++
		if e == api.OK {
			folded(t, "spoilt, but right", u)
		} else {
			refused(t, "spoilt", u)
		}
	}
	for _, e := range []api.Errno{api.OK, api.ErrSSAForm, api.ErrSSAFlow, api.ErrSSAType, api.ErrSSAOrder, api.ErrSSAMem} {
		if told[e] < 50 {
			t.Errorf("%d: %d times", e, told[e])
		}
	}
}
