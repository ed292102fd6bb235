package source

import (
	"gantry/api"
	"gantry/types"
)

// A run goes through a tree of its own, of which is known already what does not change while it runs. It is new in each place: a program may have one list in several places, but then it has several texts there.

// function is a function: the words of its parameters, of its other locals (which stand behind them), of its results.
type function struct {
	params  int
	others  int
	results int
	body    []statement
}

// statement: of StmtSet and StmtCall to tells where among the locals' words it lays what it has.
type statement struct {
	op   int
	n    int64
	args []term
	to   []part
	a, b []statement
}

// term: t is its type; n the operation of ExprUn and ExprBin, the offset of ExprAddr; part the words of ExprLocal among the locals', of ExprField among the struct's; words those of a term that is always the same.
type term struct {
	op    int
	t     int
	n     int
	part  part
	words []uint64
	args  []term
}

// reader makes such trees of a program that checks, in the order of its texts.
type reader struct {
	table
	types  []api.Type
	locals []int  // of the function in which it is: their types
	rooms  []part // and where their words are
	text   uint64 // where the next text begins
}

func (d *reader) function(f api.Func) function {
	rooms, all := d.parts(f.Locals)
	_, params := d.parts(f.Locals[:f.Params])
	_, results := d.parts(f.Results)
	d.locals, d.rooms = f.Locals, rooms
	return function{params: params, others: all - params, results: results, body: d.statements(f.Body)}
}

func (d *reader) statements(list []api.Stmt) []statement {
	var told []statement
	for _, x := range list {
		s := statement{op: x.Op, n: x.N, to: d.to(x)}
		s.args = d.terms(x.Args)
		s.a = d.statements(x.A)
		s.b = d.statements(x.B)
		told = append(told, s)
	}
	return told
}

func (d *reader) to(x api.Stmt) []part {
	var told []part
	switch x.Op {
	case api.StmtSet:
		told = append(told, d.rooms[x.N])
	case api.StmtCall:
		for _, n := range x.Dst {
			told = append(told, d.rooms[n])
		}
	}
	return told
}

func (d *reader) terms(list []api.Expr) []term {
	var told []term
	for _, x := range list {
		told = append(told, d.term(x))
	}
	return told
}

func (d *reader) term(x api.Expr) term {
	told := term{op: x.Op, args: d.terms(x.Args)}
	told.t = d.typeOf(x, told.args)
	switch x.Op {
	case api.ExprConst:
		told.words = []uint64{uint64(x.N)}
	case api.ExprStr:
		told.words = []uint64{d.text, uint64(len(x.S))}
		d.text += uint64(len(x.S))
	case api.ExprNil:
		told.words = make([]uint64, d.words(x.T))
	case api.ExprLocal:
		told.part = d.rooms[x.N]
	case api.ExprUn, api.ExprBin:
		told.n = int(x.N)
	case api.ExprField:
		parts, _ := d.parts(d.types[told.args[0].t].Fields)
		told.part = parts[x.N]
	case api.ExprAddr:
		told.n, _ = types.Offset(d.types, d.types[told.args[0].t].Elem, int(x.N))
	}
	return told
}

// typeOf tells a term's type, for check.TypeOf would check the program anew for each of its terms.
func (d *reader) typeOf(x api.Expr, args []term) int {
	switch x.Op {
	case api.ExprLocal:
		return d.locals[x.N]
	case api.ExprField:
		return d.types[args[0].t].Fields[x.N]
	case api.ExprLoad:
		return d.types[args[0].t].Elem
	case api.ExprUn, api.ExprAnd, api.ExprOr, api.ExprSlice:
		return args[0].t
	case api.ExprBin:
		if x.N < api.BinEq {
			return args[0].t
		}
	}
	return x.T
}
