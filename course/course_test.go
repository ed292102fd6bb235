package course

import (
	"slices"
	"testing"

	"gantry/api"
)

// TestFollow: a run ends by its main's result, or where it is stopped; fuel is what it has.
func TestFollow(t *testing.T) {
	c := New(nil, 2)
	r := c.Follow(func() uint64 {
		c.Burn()
		c.Emit(7)
		return ^uint64(0)
	})
	if r.End != api.EndExit || r.N != -1 || r.Steps != 1 || !slices.Equal(r.Trace, []uint64{7}) {
		t.Errorf("%+v", r)
	}
	c = New(nil, 2)
	r = c.Follow(func() uint64 {
		for {
			c.Burn()
		}
	})
	if r.End != api.EndFuel || r.N != 0 || r.Steps != 2 {
		t.Errorf("%+v", r)
	}
}

// TestOtherPanics: what is no ending is not taken for one.
func TestOtherPanics(t *testing.T) {
	for _, x := range []any{"other", struct{ end, n int }{1, 2}} {
		func() {
			defer func() {
				if got := recover(); got != x {
					t.Errorf("%v, not %v", got, x)
				}
			}()
			New(nil, 1).Follow(func() uint64 { panic(x) })
		}()
	}
}

// TestCalls: calls in the order in which they began; what is back is away no more.
func TestCalls(t *testing.T) {
	c := New(nil, 0)
	r := c.Follow(func() uint64 {
		first := c.Begin(5, []uint64{1})
		c.Back(c.Begin(6, nil), []uint64{2})
		for range maxAway - 1 {
			c.Begin(7, nil)
		}
		c.Back(first, nil)
		c.Begin(8, nil)
		c.Begin(9, []uint64{3})
		return 0
	})
	if r.End != api.EndResource || len(r.Calls) != maxAway+3 || !r.Calls[0].Back || r.Calls[0].Func != 5 || !slices.Equal(r.Calls[1].Results, []uint64{2}) || r.Calls[2].Back || !slices.Equal(r.Calls[maxAway+2].Args, []uint64{3}) {
		t.Errorf("%d, %d calls", r.End, len(r.Calls))
	}
}

// TestHolds: what lies from DataBase on and ahead of the heap.
func TestHolds(t *testing.T) {
	c := New(make([]byte, 3), 0)
	if begins := c.Block(9); begins != api.DataBase+8 {
		t.Fatalf("%d", begins)
	}
	const end = api.DataBase + 24
	for _, x := range []struct {
		a     uint64
		bytes int
		holds bool
	}{
		{api.DataBase, 1, true}, {api.DataBase, 24, true}, {api.DataBase, 25, false}, {api.DataBase - 1, 1, false}, {0, 8, false}, {end - 8, 8, true}, {end - 7, 8, false}, {end - 1, 1, true}, {end, 1, false}, {end + 1, 1, false}, {^uint64(0), 8, false},
	} {
		if c.Holds(x.a, x.bytes) != x.holds {
			t.Errorf("%d, %d bytes", x.a, x.bytes)
		}
	}
}
