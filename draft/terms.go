package draft

import "gantry/api"

func Term(op, t int, n int64, args ...api.Expr) api.Expr {
	return api.Expr{Op: op, T: t, N: n, Args: args}
}

func Con(t int, n int64) api.Expr { return Term(api.ExprConst, t, n) }

func Num(n int64) api.Expr { return Con(I64, n) }

func Loc(n int64) api.Expr { return Term(api.ExprLocal, 0, n) }

func Str(s string) api.Expr { return api.Expr{Op: api.ExprStr, T: Text, S: s} }

func Null(t int) api.Expr { return Term(api.ExprNil, t, 0) }

func Un(op int64, x api.Expr) api.Expr { return Term(api.ExprUn, 0, op, x) }

func Bin(op int64, x, y api.Expr) api.Expr { return Term(api.ExprBin, 0, op, x, y) }

func Compare(op int64, x, y api.Expr) api.Expr { return Term(api.ExprBin, Yes, op, x, y) }

func Both(x, y api.Expr) api.Expr { return Term(api.ExprAnd, 0, 0, x, y) }

func Either(x, y api.Expr) api.Expr { return Term(api.ExprOr, 0, 0, x, y) }

func As(t int, x api.Expr) api.Expr { return Term(api.ExprConv, t, 0, x) }

func Field(n int64, x api.Expr) api.Expr { return Term(api.ExprField, 0, n, x) }

func Made(t int, l ...api.Expr) api.Expr { return Term(api.ExprStruct, t, 0, l...) }

func Load(x api.Expr) api.Expr { return Term(api.ExprLoad, 0, 0, x) }

func Addr(t int, n int64, x api.Expr) api.Expr { return Term(api.ExprAddr, t, n, x) }

func Elem(t int, x, i api.Expr) api.Expr { return Term(api.ExprElem, t, 0, x, i) }

func Index(x, i api.Expr) api.Expr { return Term(api.ExprIndex, U8, 0, x, i) }

func Length(x api.Expr) api.Expr { return Term(api.ExprLen, I64, 0, x) }

func Slice(x, lo, hi api.Expr) api.Expr { return Term(api.ExprSlice, 0, 0, x, lo, hi) }

func Fresh(t int) api.Expr { return Term(api.ExprNew, t, 0) }

func Row(t int, n api.Expr) api.Expr { return Term(api.ExprMake, t, 0, n) }
