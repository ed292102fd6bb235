package build_test

import (
	"slices"
	"testing"
	"time"

	"gantry/api"
	"gantry/build"
	. "gantry/draft"
)

// nested is statements within so many loops, each of which may be left and gone once more.
func nested(deep int, l ...api.Stmt) api.Stmt {
	for range deep {
		l = append(Body(When(Loc(0), Body(Leave(0)), Body(When(Loc(1), Body(Again(0)), nil)))), l...)
		l = Body(Loop(l...))
	}
	return l[0]
}

// TestSoon: programs as great as may be are built soon, though each loop and each branch asks for the words of all locals.
func TestSoon(t *testing.T) {
	most := append([]int{Yes, Yes}, slices.Repeat([]int{Full}, api.MaxLocals-2)...)
	change := Call(1, []int{2, 3, 4, 5, 6, 7, 8, 9})
	full := slices.Repeat([]int{Full}, api.MaxParams)
	for _, c := range []struct {
		name string
		l    []api.Stmt
	}{
		{"loops in a row", slices.Repeat(Body(Loop(When(Loc(0), Body(Leave(0)), Body(When(Loc(1), Body(Leave(0)), nil))))), 250)},
		{"loops within loops", slices.Repeat(Body(nested(14)), 17)},
		{"branches", slices.Repeat(Body(When(Loc(0), Body(change), Body(When(Loc(1), Body(change), nil)))), 300)},
		{"loops that change much", slices.Repeat(Body(nested(14, change)), 16)},
		{"what is asked in loops", slices.Repeat(Body(Loop(When(Both(Loc(0), Either(Loc(1), Loc(0))), Body(Leave(0)), nil))), 200)},
	} {
		p := Program(Function(0, most, []int{I64}, append(slices.Clone(c.l), Ret(Num(1)))...), Function(0, nil, full, Quit(1)))
		start := time.Now()
		if _, e := build.Build(p); e != api.OK && e != api.ErrBuildLarge {
			t.Errorf("%s: %d", c.name, e)
		}
		if d := time.Since(start); d > 5*time.Second {
			t.Errorf("%s: %v", c.name, d)
		}
		t.Log(c.name, time.Since(start))
	}
}
