package trial_test

import (
	"testing"

	"gantry/api"
	"gantry/compare"
	"gantry/edit"
	. "gantry/hand"
	"gantry/sample"
	"gantry/ssa"
	"gantry/trial"
)

// listener hears whether anything is wrong.
type listener struct{ wrong bool }

func (l *listener) Helper() {}

func (l *listener) Errorf(string, ...any) { l.wrong = true }

func (l *listener) Fatalf(string, ...any) {
	l.wrong = true
	panic(l)
}

// heard tells whether anything is wrong with what a trial does.
func heard(try func(t trial.T)) bool {
	var l listener
	func() {
		defer func() {
			if x := recover(); x != nil && x != any(&l) {
				panic(x)
			}
		}()
		try(&l)
	}()
	return l.wrong
}

func nothing(api.Code) string { return "" }

func unchanged(_, _ api.Code) string { return "" }

// copies is a pass that is right where there is nothing to do.
func copies(u api.Unit) (api.Unit, api.Errno) {
	if ssa.Check(u) != api.OK {
		return api.Unit{}, api.ErrPassForm
	}
	return edit.Copied(u), api.OK
}

func of(run func(u api.Unit) (api.Unit, api.Errno)) trial.Pass {
	return trial.Pass{Run: run, Left: nothing, Changed: unchanged}
}

func given(t *sample.Turns) (api.Unit, []uint64) {
	return Unit(Counter()), []uint64{uint64(t.Next(9))}
}

// all is every trial of a pass.
func all(p trial.Pass) map[string]func(t trial.T) {
	return map[string]func(t trial.T){
		"many":    func(t trial.T) { p.Many(t, 1, given, 30) },
		"twice":   func(t trial.T) { p.Twice(t, 1, given) },
		"turned":  func(t trial.T) { p.Turned(t, 1, given) },
		"nothing": func(t trial.T) { p.NothingShared(t, 1, given) },
		"apart":   func(t trial.T) { p.ListsApart(t, 1, given) },
		"empty":   func(t trial.T) { p.EmptyLists(t, 1, given) },
		"at once": func(t trial.T) { p.AtOnce(t, 1, given) },
		"wrong":   func(t trial.T) { p.Wrong(t) },
		"stays":   func(t trial.T) { p.Stays(t, "stays", Unit(Counter()), []uint64{3}) },
	}
}

// TestRight: a pass that is right is not found wrong.
func TestRight(t *testing.T) {
	for name, try := range all(of(copies)) {
		if heard(try) {
			t.Errorf("%s: something is wrong", name)
		}
	}
}

// adds is a pass that makes another number of one of a Counter's.
func adds(u api.Unit) (api.Unit, api.Errno) {
	u = edit.Copied(u)
	u.Codes[0].Values[3].N++
	return u, api.OK
}

func one(is bool) string {
	if is {
		return "left"
	}
	return ""
}

// TestWrong: what is wrong is heard.
func TestWrong(t *testing.T) {
	kept := Unit(Counter())
	left := trial.Pass{Run: copies, Left: func(api.Code) string { return "left" }, Changed: unchanged}
	changed := trial.Pass{Run: copies, Left: nothing, Changed: func(_, _ api.Code) string { return "changed" }}
	few := trial.Pass{Run: adds, Left: func(c api.Code) string { return one(c.Values[3].N == 1) }, Changed: unchanged}
	u := Unit(Counter())
	for name, try := range map[string]func(t trial.T){
		"what it does":     all(of(adds))["many"],
		"empty lists":      all(of(adds))["empty"],
		"again":            all(of(adds))["twice"],
		"what it is given": all(of(func(u api.Unit) (api.Unit, api.Errno) { return u, api.OK }))["apart"],
		"what is kept":     all(of(func(u api.Unit) (api.Unit, api.Errno) { return kept, api.OK }))["nothing"],
		"an error":         all(of(func(u api.Unit) (api.Unit, api.Errno) { return u, api.ErrPassForm }))["wrong"],
		"no error":         all(of(func(u api.Unit) (api.Unit, api.Errno) { return u, api.OK }))["wrong"],
		"left":             func(t trial.T) { left.Made(t, "left", u) },
		"changed":          func(t trial.T) { changed.Made(t, "changed", u) },
		"nothing to do":    func(t trial.T) { of(copies).Goes(t, "nothing to do", u) },
		"something to do":  func(t trial.T) { left.Stays(t, "something to do", u) },
		"too few go":       func(t trial.T) { few.Loses(t, "too few go", u, 1) },
		"not right":        func(t trial.T) { of(copies).Made(t, "not right", api.Unit{}) },
	} {
		if !heard(try) {
			t.Errorf("%s: nothing is wrong", name)
		}
	}
}

// TestBack: numbers turned round twice are what they were; a value that is used has a higher number then.
func TestBack(t *testing.T) {
	u := Unit(Counter())
	once := trial.Back(u)
	if e := ssa.Check(once); e != api.OK || compare.Equal(u, once) || !compare.Equal(u, trial.Back(once)) {
		t.Errorf("%d: %+v", e, once)
	}
	if c := once.Codes[0]; c.Values[c.Blocks[0].List[0]].Op != api.OpInit || c.Blocks[0].List[0] != len(c.Values)-1 {
		t.Errorf("%+v", once)
	}
}
