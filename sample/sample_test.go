package sample

import (
	"reflect"
	"testing"

	"gantry/api"
	"gantry/ssa"
)

// TestUnit: what is made is right, the same for the same beginning; and there is some of all that a program may have.
func TestUnit(t *testing.T) {
	var ops [api.OpAddr + 1]int
	var kinds [api.BlockPanic + 1]int
	for i := range 4000 {
		one, same := Turns(i), Turns(i)
		u := Unit(&one)
		if e := ssa.Check(u); e != api.OK {
			t.Fatalf("%d: %d: %+v", i, e, u)
		}
		if !reflect.DeepEqual(u, Unit(&same)) {
			t.Fatalf("%d: not the same twice", i)
		}
		for _, c := range u.Codes {
			for _, v := range c.Values {
				ops[v.Op]++
			}
			for _, b := range c.Blocks {
				kinds[b.Kind]++
			}
		}
	}
	for op, n := range ops {
		if n < 1000 {
			t.Errorf("operation %d: %d times", op, n)
		}
	}
	for kind, n := range kinds {
		if n < 1000 {
			t.Errorf("kind of blocks %d: %d times", kind, n)
		}
	}
}
