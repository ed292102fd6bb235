package draft

import (
	"slices"

	"gantry/api"
)

// Copied tells a program that has no memory in common with p, and no list in two places.
func Copied(p api.Program) api.Program {
	p.Types, p.Funcs = slices.Clone(p.Types), slices.Clone(p.Funcs)
	for i := range p.Types {
		p.Types[i].Fields = slices.Clone(p.Types[i].Fields)
	}
	for i := range p.Funcs {
		f := &p.Funcs[i]
		f.Locals, f.Results, f.Body = slices.Clone(f.Locals), slices.Clone(f.Results), copiedStatements(f.Body)
	}
	return p
}

func copiedStatements(l []api.Stmt) []api.Stmt {
	l = slices.Clone(l)
	for i := range l {
		l[i].Args, l[i].Dst, l[i].A, l[i].B = copiedTerms(l[i].Args), slices.Clone(l[i].Dst), copiedStatements(l[i].A), copiedStatements(l[i].B)
	}
	return l
}

func copiedTerms(l []api.Expr) []api.Expr {
	l = slices.Clone(l)
	for i := range l {
		l[i].Args = copiedTerms(l[i].Args)
	}
	return l
}
