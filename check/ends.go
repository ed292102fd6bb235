package check

import (
	"slices"

	"gantry/api"
)

// ends: one statement that does is enough, wherever in the list it stands.
func ends(l []api.Stmt) bool { return slices.ContainsFunc(l, endsOne) }

func endsOne(x api.Stmt) bool {
	switch x.Op {
	case api.StmtReturn, api.StmtPanic, api.StmtBreak, api.StmtContinue:
		return true
	case api.StmtIf:
		return ends(x.A) && ends(x.B)
	case api.StmtLoop:
		return !leaves(x.A, 0)
	}
	return false
}

// leaves tells whether a StmtBreak anywhere in l is out of the n-th loop around l.
func leaves(l []api.Stmt, n int64) bool {
	return slices.ContainsFunc(l, func(x api.Stmt) bool {
		switch x.Op {
		case api.StmtBreak:
			return x.N == n
		case api.StmtLoop:
			return leaves(x.A, n+1)
		}
		return leaves(x.A, n) || leaves(x.B, n)
	})
}
