package ssa

import (
	"reflect"
	"testing"

	"gantry/api"
	"gantry/edit"
	"gantry/sample"
)

// TestModel: P12.1: many programs, right ones and such with one or two small changes, against a second, plain model.
func TestModel(t *testing.T) {
	found := map[api.Errno]int{}
	turns := sample.Turns(12)
	for i := range 20000 {
		u := sample.Unit(&turns)
		told(t, "as it was made", u, api.OK)
		sample.Spoil(&turns, &u)
		want := modelCheck(u)
		if e := Check(u); e != want {
			t.Fatalf("%d: %d, not %d: %+v", i, e, want, u)
		}
		for _, c := range u.Codes {
			if e := Flow(c); e != modelFlow(c) {
				t.Fatalf("%d: Flow: %d, not %d: %+v", i, e, modelFlow(c), c)
			}
		}
		found[want]++
	}
	for _, e := range []api.Errno{api.OK, api.ErrSSAForm, api.ErrSSAFlow, api.ErrSSAType, api.ErrSSAOrder, api.ErrSSAMem} {
		if found[e] < 100 {
			t.Errorf("%d was told %d times: too few", e, found[e])
		}
	}
}

// TestModelTwice: P12.1: programs with two changes: the first of two errors.
func TestModelTwice(t *testing.T) {
	turns := sample.Turns(77)
	for i := range 6000 {
		u := sample.Unit(&turns)
		sample.Spoil(&turns, &u)
		if Check(u) == api.ErrSSAForm {
			continue
		}
		sample.Spoil(&turns, &u)
		if e, want := Check(u), modelCheck(u); e != want {
			t.Fatalf("%d: %d, not %d: %+v", i, e, want, u)
		}
	}
}

// TestKept: P12.1: R1, R2: the same call tells the same, and what is handed in stays as it was.
func TestKept(t *testing.T) {
	turns := sample.Turns(5)
	for range 2000 {
		u := sample.Unit(&turns)
		sample.Spoil(&turns, &u)
		was := edit.Copied(u)
		first, flow := Check(u), Flow(u.Codes[0])
		if !reflect.DeepEqual(edit.Copied(u), was) {
			t.Fatalf("changed: %+v", was)
		}
		if Check(u) != first || Flow(u.Codes[0]) != flow {
			t.Fatalf("not the same twice: %+v", u)
		}
	}
}
