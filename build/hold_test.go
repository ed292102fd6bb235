package build_test

import (
	"bytes"
	"slices"
	"testing"

	"gantry/api"
	"gantry/build"
	"gantry/check"
	"gantry/compare"
	"gantry/eval"
	"gantry/source"
	"gantry/ssa"
	"gantry/types"
)

func words(l ...uint64) []uint64 { return l }

// minus is a number below 0 as a word.
func minus(n int64) uint64 { return uint64(-n) }

// manyPhis tells whether each OpPhi has two Args at least that are not itself.
func manyPhis(c api.Code) bool {
	for n, v := range c.Values {
		others := map[int]int{}
		for _, a := range v.Args {
			if a != n {
				others[a]++
			}
		}
		if v.Op == api.OpPhi && len(others) < 2 {
			return false
		}
	}
	return true
}

// kinds tells the words' kinds of values of such types.
func kinds(p api.Program, list []int) (told []int) {
	for _, i := range list {
		k, _, _ := types.Words(p.Types, i)
		told = append(told, k...)
	}
	return told
}

// built tells a program's unit, which it holds against what P16.1 says of its form.
func built(t *testing.T, name string, p api.Program) api.Unit {
	t.Helper()
	u, e := build.Build(p)
	if e != api.OK {
		t.Fatalf("%s: %d: %+v", name, e, p)
	}
	if e := ssa.Check(u); e != api.OK {
		t.Fatalf("%s: ssa.Check tells %d: %+v: %+v", name, e, p, u)
	}
	if data, _ := check.Data(p); !bytes.Equal(data, u.Data) || len(u.Codes) != len(p.Funcs) {
		t.Fatalf("%s: %d Codes, Data %q, not %q", name, len(u.Codes), u.Data, data)
	}
	for i, f := range p.Funcs {
		c := u.Codes[i]
		if !slices.Equal(c.Params, kinds(p, f.Locals[:f.Params])) || !slices.Equal(c.Results, kinds(p, f.Results)) {
			t.Fatalf("%s: Code %d has Params %d, Results %d", name, i, c.Params, c.Results)
		}
		if !manyPhis(c) {
			t.Fatalf("%s: Code %d has an OpPhi of one value: %+v", name, i, c)
		}
	}
	return u
}

// enough is fuel for nearly all that ends here.
const enough = 20000

// run runs a program and its unit with so much fuel each.
func run(t *testing.T, name string, p api.Program, u api.Unit, args []uint64, fuel, more int) (api.Run, api.Run) {
	t.Helper()
	a, e := source.Run(p, args, fuel)
	b, f := eval.Run(u, args, more)
	if e != api.OK || f != api.OK || b.End == api.EndStuck {
		t.Fatalf("%s, %d, fuel %d and %d: %d, %d, %+v: %+v", name, args, fuel, more, e, f, b, p)
	}
	return a, b
}

// holdRun holds the runs of a program and of its unit, with such fuels and with enough, against each other, and tells the program's with enough.
func holdRun(t *testing.T, name string, p api.Program, u api.Unit, args []uint64, fuels ...int) api.Run {
	t.Helper()
	last, other := run(t, name, p, u, args, enough, enough)
	if last.End != api.EndFuel && other.End == api.EndFuel {
		_, other = run(t, name, p, u, args, 0, api.MaxFuel)
	}
	if last.End != api.EndFuel && other.End == api.EndFuel {
		t.Fatalf("%s, %d: the unit's run ends by fuel: %+v", name, args, p)
	}
	means, does := []api.Run{last}, []api.Run{other}
	for _, fuel := range fuels {
		a, b := run(t, name, p, u, args, fuel, fuel)
		means, does = append(means, a), append(does, b)
	}
	for i, a := range means {
		for j, b := range does {
			if !compare.Agree(a, b) {
				t.Fatalf("%s, %d: the run %d is %+v, that of its unit %d %+v: %+v", name, args, i, a, j, b, p)
			}
		}
	}
	return last
}

// hold builds a program, and holds its runs.
func hold(t *testing.T, name string, p api.Program, args ...uint64) api.Run {
	t.Helper()
	return holdRun(t, name, p, built(t, name, p), args, 0, 1, 2, 5, 13, 34, 150)
}

// does holds a program, and how it runs with enough fuel.
func does(t *testing.T, name string, p api.Program, args []uint64, end int, n int64, trace ...uint64) {
	t.Helper()
	r := holdRun(t, name, p, built(t, name, p), args, 2, 12)
	if r.End != end || r.N != n || !slices.Equal(r.Trace, trace) {
		t.Errorf("%s, %d: %d, %d, %d, not %d, %d, %d", name, args, r.End, r.N, r.Trace, end, n, trace)
	}
}
