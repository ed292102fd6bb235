package check

import "gantry/api"

// scope is where terms and statements stand: a function among others, and so many loops around.
type scope struct {
	table
	funcs []api.Func
	f     api.Func
	loops int
	nodes int // terms that were begun
	deep  int // in how many terms it stands
}

func within(t table, funcs []api.Func, f int) *scope {
	return &scope{table: t, funcs: funcs, f: funcs[f]}
}

// What a row may name beside Args.
const (
	partT = 1 << iota
	partN
	partS
	partDst
	partA
	partB
)

// anyArgs: a row that does not say how many, or says it later.
const anyArgs = -1

func argsFit(want, have int) bool { return want == anyArgs || want == have }

// partIf is for what is not 0 or empty: it has to be named.
func partIf(part int, stands bool) int {
	if stands {
		return part
	}
	return 0
}

func partsOfTerm(x api.Expr) int {
	return partIf(partT, x.T != 0) | partIf(partN, x.N != 0) | partIf(partS, len(x.S) > 0)
}

func partsOfStatement(x api.Stmt) int {
	return partIf(partN, x.N != 0) | partIf(partDst, len(x.Dst) > 0) | partIf(partA, len(x.A) > 0) | partIf(partB, len(x.B) > 0)
}
