package eval_test

import (
	"math"
	"slices"
	"testing"

	"gantry/api"
	"gantry/compare"
	"gantry/eval"
	"gantry/ssa"
)

func kinds(l ...int) []int { return l }

func words(l ...uint64) []uint64 { return l }

func minus(n int) uint64 { return uint64(-n) }

func bits(x float64) uint64 { return math.Float64bits(x) }

// ran runs a unit that checks.
func ran(t *testing.T, name string, u api.Unit, args []uint64, fuel int) api.Run {
	t.Helper()
	if e := ssa.Check(u); e != api.OK {
		t.Fatalf("%s: not right: %d", name, e)
	}
	r, e := eval.Run(u, args, fuel)
	if e != api.OK {
		t.Fatalf("%s: %d", name, e)
	}
	return r
}

// runs holds all of a run.
func runs(t *testing.T, name string, u api.Unit, args []uint64, fuel int, want api.Run) {
	t.Helper()
	if r := ran(t, name, u, args, fuel); !compare.Same(r, want) {
		t.Errorf("%s: %+v, not %+v", name, r, want)
	}
}

// ends holds a run's end and its trace.
func ends(t *testing.T, name string, u api.Unit, args []uint64, end int, n int64, trace ...uint64) {
	t.Helper()
	if r := ran(t, name, u, args, 100000); r.End != end || r.N != n || !slices.Equal(r.Trace, trace) {
		t.Errorf("%s: end %d, %d, trace %d, not %d, %d, %d", name, r.End, r.N, r.Trace, end, n, trace)
	}
}

// exits holds that a run ends with 0, and its trace.
func exits(t *testing.T, name string, u api.Unit, trace ...uint64) {
	t.Helper()
	ends(t, name, u, nil, api.EndExit, 0, trace...)
}

func stuck(t *testing.T, name string, u api.Unit, trace ...uint64) {
	t.Helper()
	ends(t, name, u, nil, api.EndStuck, 0, trace...)
}

func full(t *testing.T, name string, u api.Unit, trace ...uint64) {
	t.Helper()
	ends(t, name, u, nil, api.EndResource, 0, trace...)
}
