package tree

import (
	"gantry/api"
	"gantry/types"
)

// reader makes the tree of a program that checks, in the order of its texts.
type reader struct {
	Table
	types  []api.Type
	locals []int  // of the function in which it is: their types
	rooms  []Part // and where their words are
	text   uint64 // where the next text begins
}

func (d *reader) function(f api.Func) Function {
	d.locals, d.rooms = f.Locals, d.parts(f.Locals)
	return Function{
		Params:  d.Kinds(f.Locals[:f.Params]),
		Others:  d.Kinds(f.Locals[f.Params:]),
		Results: d.Kinds(f.Results),
		Body:    d.statements(f.Body),
	}
}

func (d *reader) statements(list []api.Stmt) []Statement {
	var told []Statement
	for _, x := range list {
		s := Statement{Op: x.Op, N: x.N, To: d.to(x)}
		s.Args = d.terms(x.Args)
		s.A = d.statements(x.A)
		s.B = d.statements(x.B)
		told = append(told, s)
	}
	return told
}

func (d *reader) to(x api.Stmt) []Part {
	var told []Part
	switch x.Op {
	case api.StmtSet:
		told = append(told, d.rooms[x.N])
	case api.StmtCall:
		for _, n := range x.Dst {
			told = append(told, d.rooms[n])
		}
	}
	return told
}

func (d *reader) terms(list []api.Expr) []Term {
	var told []Term
	for _, x := range list {
		told = append(told, d.term(x))
	}
	return told
}

func (d *reader) term(x api.Expr) Term {
	told := Term{Op: x.Op, Args: d.terms(x.Args)}
	told.T = d.typeOf(x, told.Args)
	switch x.Op {
	case api.ExprConst:
		told.Words = []uint64{uint64(x.N)}
	case api.ExprStr:
		told.Words = []uint64{d.text, uint64(len(x.S))}
		d.text += uint64(len(x.S))
	case api.ExprNil:
		told.Words = make([]uint64, d.Words(x.T))
	case api.ExprLocal:
		told.Part = d.rooms[x.N]
	case api.ExprUn, api.ExprBin:
		told.N = int(x.N)
	case api.ExprField:
		told.Part = d.parts(d.types[told.Args[0].T].Fields)[x.N]
	case api.ExprAddr:
		told.N, _ = types.Offset(d.types, d.types[told.Args[0].T].Elem, int(x.N))
	}
	return told
}

// typeOf tells a term's type, for check.TypeOf would check the program anew for each of its terms.
func (d *reader) typeOf(x api.Expr, args []Term) int {
	switch x.Op {
	case api.ExprLocal:
		return d.locals[x.N]
	case api.ExprField:
		return d.types[args[0].T].Fields[x.N]
	case api.ExprLoad:
		return d.types[args[0].T].Elem
	case api.ExprUn, api.ExprAnd, api.ExprOr, api.ExprSlice:
		return args[0].T
	case api.ExprBin:
		if x.N < api.BinEq {
			return args[0].T
		}
	}
	return x.T
}
