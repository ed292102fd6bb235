package cse_test

import (
	"testing"

	"gantry/api"
	"gantry/build"
	"gantry/compare"
	. "gantry/draft"
)

// TestExamples: chapter 18's: a * b twice, the one in block 0; two OpLoads, with an OpStore between and without.
func TestExamples(t *testing.T) {
	product := Bin(api.BinMul, Loc(0), Loc(1))
	twice := Program(Function(2, []int{I64, I64, I64}, []int{I64}, Set(2, product), When(Compare(api.BinLt, Loc(0), Num(9)), Body(Emit(product)), nil), Ret(Loc(2))))
	if many := counted(t, twice, api.OpBin, []uint64{3, 5}); many != 2 {
		t.Errorf("%d OpBins", many)
	}
	for i, between := range [][]api.Stmt{nil, {Store(Loc(2), Num(5))}} {
		body := append(Body(Set(2, Fresh(To64)), Set(0, Load(Loc(2)))), between...)
		body = append(body, Ret(Bin(api.BinAdd, Loc(0), Load(Loc(2)))))
		loads := Program(Function(2, []int{I64, I64, To64}, []int{I64}, body...))
		if many := counted(t, loads, api.OpLoad, []uint64{3, 5}); many != 1+i {
			t.Errorf("%d OpLoads", many)
		}
	}
}

// counted tells how many values there are of an operation in what the pass makes of a program.
func counted(t *testing.T, p api.Program, op int, args []uint64) int {
	t.Helper()
	u, e := build.Build(p)
	if e != api.OK {
		t.Fatal(e)
	}
	return compare.Count(pass.Goes(t, "an example", u, args).Codes[0], op)
}
