package dead_test

import (
	"testing"

	"gantry/api"
	"gantry/build"
	"gantry/compare"
	. "gantry/draft"
)

// TestExamples: chapter 19's: OpPhis that only use each other, of two numbers that change places in a loop; an OpAlloc whose block nobody uses.
func TestExamples(t *testing.T) {
	swap := Body(Set(3, Loc(1)), Set(1, Loc(2)), Set(2, Loc(3)), Set(0, Bin(api.BinSub, Loc(0), Num(1))))
	turn := append([]api.Stmt{When(Compare(api.BinLt, Loc(0), Num(1)), Body(Leave(0)), nil)}, swap...)
	for i, told := range []api.Expr{Num(5), Loc(1)} {
		p := Program(Function(1, []int{I64, I64, I64, I64}, []int{I64}, Set(2, Num(7)), Loop(turn...), Ret(told)))
		if phis := counted(t, p, api.OpPhi); phis != 1+2*i {
			t.Errorf("%d OpPhis", phis)
		}
	}
	p := Program(Function(1, []int{I64, To64}, []int{I64}, Set(1, Fresh(To64)), Ret(Num(1))))
	if allocs, blocks := counted(t, p, api.OpAlloc), counted(t, p, api.OpBlock); allocs != 1 || blocks != 0 {
		t.Errorf("%d OpAllocs, %d OpBlocks", allocs, blocks)
	}
}

// counted tells how many values there are of an operation in what the pass makes of a program.
func counted(t *testing.T, p api.Program, op int) int {
	t.Helper()
	u, e := build.Build(p)
	if e != api.OK {
		t.Fatal(e)
	}
	return compare.Count(pass.Hold(t, "an example", u, []uint64{0}, []uint64{4}).Codes[0], op)
}
