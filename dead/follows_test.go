package dead_test

import (
	"slices"
	"testing"

	"gantry/api"
	"gantry/compare"
	. "gantry/hand"
	"gantry/sample"
)

// given tells a program that is right, most values of which nobody needs, and arguments for it.
func given(t *sample.Turns) (api.Unit, []uint64) {
	u := sample.Unit(t)
	var args []uint64
	for _, k := range u.Codes[0].Params {
		args = append(args, sample.Pick(t, Edges(k)))
	}
	return u, args
}

// TestMany: P19.1, P19.2: many programs, with several fuels each.
func TestMany(t *testing.T) {
	t.Parallel()
	if ends := pass.Many(t, 57, given, 1500); slices.Min(ends[1:]) < 30 {
		t.Errorf("%d", ends)
	}
}

// TestGiven: of each Op that may go some go, and some stay; of the others none go.
func TestGiven(t *testing.T) {
	t.Parallel()
	turns := sample.Turns(58)
	var gone, stays [api.OpAddr + 1]int
	for range 600 {
		u, _ := given(&turns)
		made := pass.Made(t, "given", u)
		for i, c := range u.Codes {
			for op := api.OpConst; op <= api.OpAddr; op++ {
				is := compare.Count(made.Codes[i], op)
				stays[op] += is
				gone[op] += compare.Count(c, op) - is
			}
		}
	}
	for op := api.OpConst; op <= api.OpAddr; op++ {
		makes := slices.Contains([]int{api.OpInit, api.OpStore, api.OpAlloc, api.OpEmit, api.OpCall}, op)
		if stays[op] < 20 || makes && gone[op] > 0 || !makes && gone[op] < 20 {
			t.Errorf("%d: %d go, %d stay", op, gone[op], stays[op])
		}
	}
}

// TestTwice: P19.1: a second Run behind the first has nothing to do.
func TestTwice(t *testing.T) {
	t.Parallel()
	pass.Twice(t, 59, given)
	turns := sample.Turns(60)
	for range 300 {
		u, _ := given(&turns)
		once := pass.Made(t, "once", u)
		if again := pass.Made(t, "again", once); !compare.Equal(once, again) {
			t.Fatalf("%+v, made of %+v", again, once)
		}
	}
}

// TestNumbers: P19.1: numbers of values that are turned round change nothing.
func TestNumbers(t *testing.T) {
	t.Parallel()
	pass.Turned(t, 61, given)
}

// TestBuilt: P19.1, P19.2: units that package build makes of programs.
func TestBuilt(t *testing.T) {
	t.Parallel()
	if found := pass.Built(t, 62); found < 100 {
		t.Errorf("%d", found)
	}
}

// TestNothingShared: R1, R2: what is handed in is neither changed nor kept; what is told is new; the same call tells the same.
func TestNothingShared(t *testing.T) { pass.NothingShared(t, 63, given) }

// TestListsApart: R2: no two lists of a unit, and of what is made of it, share memory, spare room too.
func TestListsApart(t *testing.T) { pass.ListsApart(t, 64, given) }

// TestEmptyLists: R2: a nil list and an empty one are one.
func TestEmptyLists(t *testing.T) { pass.EmptyLists(t, 65, given) }

// TestAtOnce: R1: calls at once do not know of each other.
func TestAtOnce(t *testing.T) { pass.AtOnce(t, 66, given) }

// TestWrong: P19.1: ErrPassForm for each of ssa.Check's errors, alone and in a Code behind a right one.
func TestWrong(t *testing.T) { pass.Wrong(t) }

// TestSpoilt: P19.1: programs with a small change: ErrPassForm, or what is right.
func TestSpoilt(t *testing.T) {
	t.Parallel()
	pass.Spoilt(t, 67)
}
