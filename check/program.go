package check

import (
	"gantry/api"
	"gantry/fault"
	"gantry/raw"
)

// take asks of a whole program what must be. Heads go ahead of all statements, for a call asks for another function's head.
func take(p api.Program) table {
	_, e := raw.Encode(p)
	fault.Must(e == api.OK, e)
	t := newTable(p.Types)
	fault.Must(len(p.Funcs) > 0 && len(p.Funcs) <= api.MaxFuncs, api.ErrCheckFunc)
	for i, f := range p.Funcs {
		t.head(f)
		if i == 0 {
			t.first(f)
		}
	}
	for i, f := range p.Funcs {
		within(t, p.Funcs, i).statements(f.Body)
		fault.Must(ends(f.Body), api.ErrCheckReturn)
	}
	return t
}

func (t table) head(f api.Func) {
	fault.Must(len(f.Locals) <= api.MaxLocals, api.ErrCheckLocal)
	fault.Must(f.Params >= 0 && f.Params <= min(len(f.Locals), api.MaxParams), api.ErrCheckLocal)
	fault.Must(all(f.Locals, t.isEntry), api.ErrCheckLocal)
	fault.Must(all(f.Locals, t.isValue), api.ErrCheckType)
	fault.Must(len(f.Results) <= api.MaxParams, api.ErrCheckCount)
	fault.Must(all(f.Results, t.isValue), api.ErrCheckType)
}

// first asks of the function 0 that plain words run it, and one comes out.
func (t table) first(f api.Func) {
	fault.Must(len(f.Results) == 1 && t.kind(f.Results[0]) == api.KindI64, api.ErrCheckFunc)
	fault.Must(f.Params <= api.ArgRegs && all(f.Locals[:f.Params], t.isPlain), api.ErrCheckFunc)
}

func all(l []int, holds func(int) bool) bool {
	for _, x := range l {
		if !holds(x) {
			return false
		}
	}
	return true
}
