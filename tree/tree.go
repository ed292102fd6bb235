// Package tree is what source and build have in common (../../shared/doc/10-source.md, 16-build.md): a program that checks, with all that does not change while it runs, or is built.
package tree

import "gantry/api"

// A tree is new in each place: a program may have one list in several places, but then it has several texts there.

// Function is a function: the kinds of its parameters' words, of its other locals' (which stand behind them), of its results'.
type Function struct {
	Params  []int
	Others  []int
	Results []int
	Body    []Statement
}

// Statement: of StmtSet and StmtCall To tells where among the locals' words it lays what it has.
type Statement struct {
	Op   int
	N    int64
	Args []Term
	To   []Part
	A, B []Statement
}

// Term: T is its type; N the operation of ExprUn and ExprBin, the offset of ExprAddr; Part the words of ExprLocal among the locals', of ExprField among the struct's; Words those of a term that is always the same.
type Term struct {
	Op    int
	T     int
	N     int
	Part  Part
	Words []uint64
	Args  []Term
}

// Of tells the types and functions of a program that checks.
func Of(p api.Program) (Table, []Function) {
	d := &reader{Table: newTable(p.Types), types: p.Types, text: api.DataBase}
	var told []Function
	for _, f := range p.Funcs {
		told = append(told, d.function(f))
	}
	return d.Table, told
}
