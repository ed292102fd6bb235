package build_test

import (
	"reflect"
	"slices"
	"sync"
	"testing"

	"gantry/api"
	"gantry/build"
	"gantry/compare"
	. "gantry/draft"
	"gantry/sample"
)

// TestAgree: P16.1: many programs and their units do the same, whatever fuel each has.
func TestAgree(t *testing.T) {
	t.Parallel()
	turns := sample.Turns(16)
	var ends [api.EndStuck + 1]int
	var kinds [api.PanicUser + 1]int
	var ops [api.OpAddr + 1]int
	for range 800 {
		p, args := Any(&turns)
		u := built(t, "any", p)
		for op := range ops {
			for _, c := range u.Codes {
				ops[op] += count(c, op, api.KindNone)
			}
		}
		r := holdRun(t, "any", p, u, args, turns.Next(20), 20+turns.Next(100), 100+turns.Next(2000))
		ends[r.End]++
		if r.End == api.EndPanic {
			kinds[min(r.N, api.PanicUser)]++
		}
	}
	if slices.Min(slices.Concat(ends[api.EndExit:api.EndStuck], kinds[1:])) < 3 || ends[api.EndStuck] > 0 {
		t.Errorf("%d, %d", ends, kinds)
	}
	for op, n := range ops {
		if (n > 0) != (op != api.OpNone && op != api.OpSel) {
			t.Errorf("%d of the Op %d", n, op)
		}
	}
}

// TestMoreArguments: P16.1: one unit for all arguments.
func TestMoreArguments(t *testing.T) {
	t.Parallel()
	turns := sample.Turns(17)
	for range 60 {
		p, args := Any(&turns)
		u := built(t, "any", p)
		for range 8 {
			for i, k := range p.Funcs[0].Locals[:len(args)] {
				args[i] = sample.Pick(&turns, edges(k))
			}
			holdRun(t, "any", p, u, args, turns.Next(300))
		}
	}
}

// TestNothingShared: R1, R2: a program is neither changed nor kept; what is told is new; the same call tells the same.
func TestNothingShared(t *testing.T) {
	turns := sample.Turns(18)
	for range 100 {
		p, _ := Any(&turns)
		kept := Copied(p)
		u, _ := build.Build(p)
		again, _ := build.Build(p)
		if !reflect.DeepEqual(u, again) || !reflect.DeepEqual(p, kept) {
			t.Fatalf("%+v", p)
		}
		compare.Wipe(u)
		last, e := build.Build(p)
		if e != api.OK || !reflect.DeepEqual(again, last) || !reflect.DeepEqual(p, kept) {
			t.Fatalf("what is told is kept: %+v", p)
		}
		for i := range p.Funcs {
			clear(p.Funcs[i].Locals)
			clear(p.Funcs[i].Results)
			clear(p.Funcs[i].Body)
		}
		if !reflect.DeepEqual(again, last) {
			t.Fatalf("what is handed in is kept: %+v", kept)
		}
	}
}

// TestListsApart: R2: no two lists of a unit share memory, spare room too.
func TestListsApart(t *testing.T) {
	turns := sample.Turns(19)
	for range 60 {
		p, _ := Any(&turns)
		u, _ := build.Build(p)
		if !compare.Apart(u) {
			t.Fatalf("two lists share memory: %+v", p)
		}
	}
}

// TestSharedLists: R2: one list may stand in a program in several places; each is a place of its own, with texts of its own.
func TestSharedLists(t *testing.T) {
	one := Emit(Index(Str("ab"), Loc(0)))
	l := Body(one, one)
	p := Alone([]int{I64}, When(Con(Yes, 1), l, l), Set(0, Num(1)), When(Con(Yes, 0), l, l), one, Loop(Leave(0)), Ret(Loc(0)))
	does(t, "shared", p, nil, api.EndExit, 1, 'a', 'a', 'b', 'b', 'b')
	a, _ := build.Build(p)
	if b, e := build.Build(Copied(p)); e != api.OK || !reflect.DeepEqual(a, b) {
		t.Errorf("%+v, %+v", a, b)
	}
}

// TestEmptyLists: R2: a nil list and an empty one are one.
func TestEmptyLists(t *testing.T) {
	p := Program(
		api.Func{Locals: []int{}, Results: []int{I64}, Body: Body(
			api.Stmt{Op: api.StmtCall, N: 1, Args: []api.Expr{}, Dst: []int{}, A: []api.Stmt{}, B: []api.Stmt{}},
			api.Stmt{Op: api.StmtIf, Args: []api.Expr{Con(Yes, 1)}, A: []api.Stmt{}, B: []api.Stmt{}, Dst: []int{}},
			api.Stmt{Op: api.StmtReturn, Args: []api.Expr{{Op: api.ExprConst, N: 5, Args: []api.Expr{}}}})},
		api.Func{Body: Body(api.Stmt{Op: api.StmtReturn, Args: []api.Expr{}})})
	does(t, "empty", p, []uint64{}, api.EndExit, 5)
}

// TestAtOnce: R1: calls at once do not know of each other.
func TestAtOnce(t *testing.T) {
	turns := sample.Turns(20)
	p, _ := Any(&turns)
	want, _ := build.Build(p)
	var all sync.WaitGroup
	for range 8 {
		all.Go(func() {
			for range 20 {
				if u, e := build.Build(p); e != api.OK || !reflect.DeepEqual(u, want) {
					t.Errorf("another unit")
				}
			}
		})
	}
	all.Wait()
}
