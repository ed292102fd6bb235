package fault_test

import (
	"testing"

	"gantry/api"
	"gantry/fault"
)

// TestOf: what holds goes on, and the first thing that does not is told.
func TestOf(t *testing.T) {
	far := 0
	ask := func(first, second bool) func() {
		return func() {
			far = 0
			fault.Must(first, api.ErrRawForm)
			far = 1
			fault.Must(second, api.ErrRawMany)
			far = 2
		}
	}
	for _, c := range []struct {
		first, second bool
		want          api.Errno
		far           int
	}{{true, true, api.OK, 2}, {true, false, api.ErrRawMany, 1}, {false, true, api.ErrRawForm, 0}, {false, false, api.ErrRawForm, 0}} {
		if e := fault.Of(ask(c.first, c.second)); e != c.want || far != c.far {
			t.Errorf("%v, %v: %d, and %d", c.first, c.second, e, far)
		}
	}
}

// TestForeign: a panic that is no fault is not kept back, an Errno neither.
func TestForeign(t *testing.T) {
	for _, x := range []any{"none", api.ErrRawForm, 7} {
		func() {
			defer func() {
				if got := recover(); got != x {
					t.Errorf("%v, not %v", got, x)
				}
			}()
			fault.Of(func() { panic(x) })
			t.Errorf("%v is kept back", x)
		}()
	}
}

// TestWithin: a fault is told by the innermost Of alone.
func TestWithin(t *testing.T) {
	inner := api.OK
	outer := fault.Of(func() { inner = fault.Of(func() { fault.Must(false, api.ErrTypeForm) }) })
	if inner != api.ErrTypeForm || outer != api.OK {
		t.Errorf("%d, %d", inner, outer)
	}
}
