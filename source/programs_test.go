package source_test

import (
	"reflect"
	"slices"
	"testing"

	"gantry/api"
	. "gantry/draft"
	"gantry/source"
)

func words(l ...uint64) []uint64 { return l }

// minus is a number below 0 as a word.
func minus(n int64) uint64 { return uint64(-n) }

func exits(n int64, trace ...uint64) api.Run { return api.Run{Trace: trace, End: api.EndExit, N: n} }

func panics(kind int64, trace ...uint64) api.Run {
	return api.Run{Trace: trace, End: api.EndPanic, N: kind}
}

func resource(trace ...uint64) api.Run { return api.Run{Trace: trace, End: api.EndResource} }

func fuelless(steps int, trace ...uint64) api.Run {
	return api.Run{Trace: trace, End: api.EndFuel, Steps: steps}
}

// plain: a nil list and an empty one are one.
func plain(r api.Run) api.Run {
	r.Trace = append(words(), r.Trace...)
	r.Calls = append([]api.Call{}, r.Calls...)
	for i := range r.Calls {
		r.Calls[i].Args = append(words(), r.Calls[i].Args...)
		r.Calls[i].Results = append(words(), r.Calls[i].Results...)
	}
	return r
}

// same holds two runs against each other, all of them.
func same(a, b api.Run) bool { return reflect.DeepEqual(plain(a), plain(b)) }

// runs holds a run against what it should be: its steps, if steps are told (or it ends by EndFuel); its calls, if calls are.
func runs(t *testing.T, name string, p api.Program, args []uint64, fuel int, want api.Run) api.Run {
	t.Helper()
	r, e := source.Run(p, args, fuel)
	got := r
	if want.Steps == 0 && want.End != api.EndFuel {
		got.Steps = 0
	}
	if want.Calls == nil {
		got.Calls = nil
	}
	if e != api.OK || !same(got, want) {
		t.Errorf("%s: %+v, %d, not %+v", name, got, e, want)
	}
	return r
}

// tells holds what a scalar term tells, in a function with such locals, behind such statements.
func tells(t *testing.T, name string, x api.Expr, want uint64, locals []int, l ...api.Stmt) {
	t.Helper()
	runs(t, name, Alone(locals, append(slices.Clone(l), Emit(x), Ret(Num(0)))...), nil, 1000, exits(0, want))
}

// ends holds how a run ends that works out a term of the type k, behind an emitted 1; ahead of an emitted 2.
func ends(t *testing.T, name string, k int, x api.Expr, want api.Run, locals ...int) {
	t.Helper()
	n := int64(len(locals))
	want.Trace = words(1)
	runs(t, name, Alone(append(slices.Clone(locals), k), Emit(Num(1)), Set(n, x), Emit(Num(2)), Ret(Num(0))), nil, 1000, want)
}

// handed tells the words of a term of the type k, as a call of a function with such a parameter has them.
func handed(t *testing.T, k int, x api.Expr, locals []int, l ...api.Stmt) []uint64 {
	t.Helper()
	l = append(slices.Clone(l), Call(1, nil, x), Ret(Num(0)))
	p := Program(Function(0, locals, []int{I64}, l...), Function(1, []int{k}, nil, Ret()))
	r, e := source.Run(p, nil, 1000)
	if e != api.OK || r.End != api.EndExit || len(r.Calls) != 2 {
		t.Errorf("%+v, %d", r, e)
		return nil
	}
	return r.Calls[1].Args
}
