package check

import "gantry/api"

// texts tells those of a program that checks, one behind the other, in the order in which they are numbered.
func texts(p api.Program) (b []byte) {
	for _, f := range p.Funcs {
		b = textsOfStatements(b, f.Body)
	}
	return b
}

func textsOfStatements(b []byte, l []api.Stmt) []byte {
	for _, x := range l {
		b = textsOfTerms(b, x.Args)
		b = textsOfStatements(b, x.A)
		b = textsOfStatements(b, x.B)
	}
	return b
}

// textsOfTerms: no term but an ExprStr has a text.
func textsOfTerms(b []byte, l []api.Expr) []byte {
	for _, x := range l {
		b = append(b, x.S...)
		b = textsOfTerms(b, x.Args)
	}
	return b
}
