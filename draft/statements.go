package draft

import "gantry/api"

func Set(n int64, x api.Expr) api.Stmt {
	return api.Stmt{Op: api.StmtSet, N: n, Args: []api.Expr{x}}
}

func Store(x, y api.Expr) api.Stmt { return api.Stmt{Op: api.StmtStore, Args: []api.Expr{x, y}} }

func Emit(x api.Expr) api.Stmt { return api.Stmt{Op: api.StmtEmit, Args: []api.Expr{x}} }

func Ret(l ...api.Expr) api.Stmt { return api.Stmt{Op: api.StmtReturn, Args: l} }

func When(x api.Expr, a, b []api.Stmt) api.Stmt {
	return api.Stmt{Op: api.StmtIf, Args: []api.Expr{x}, A: a, B: b}
}

func Loop(l ...api.Stmt) api.Stmt { return api.Stmt{Op: api.StmtLoop, A: l} }

func Leave(n int64) api.Stmt { return api.Stmt{Op: api.StmtBreak, N: n} }

func Again(n int64) api.Stmt { return api.Stmt{Op: api.StmtContinue, N: n} }

func Quit(n int64) api.Stmt { return api.Stmt{Op: api.StmtPanic, N: n} }

func Call(f int64, dst []int, args ...api.Expr) api.Stmt {
	return api.Stmt{Op: api.StmtCall, N: f, Dst: dst, Args: args}
}

func Body(l ...api.Stmt) []api.Stmt { return l }

func Function(params int, locals, results []int, l ...api.Stmt) api.Func {
	return api.Func{Params: params, Locals: locals, Results: results, Body: l}
}

func Program(l ...api.Func) api.Program { return api.Program{Types: Types(), Funcs: l} }

// Alone is a program of a function 0 with no parameters, and these locals.
func Alone(locals []int, l ...api.Stmt) api.Program {
	return Program(Function(0, locals, []int{I64}, l...))
}
