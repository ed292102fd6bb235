package check

import (
	"slices"

	"gantry/api"
	"gantry/fault"
)

const maxPanic = 255

func (s *scope) statements(l []api.Stmt) {
	for _, x := range l {
		s.statement(x)
	}
}

func (s *scope) statement(x api.Stmt) {
	r := statementRowOf(x.Op)
	fault.Must(r.ask != nil && partsOfStatement(x)&^r.parts == 0, api.ErrCheckOp)
	fault.Must(argsFit(r.args, len(x.Args)), api.ErrCheckCount)
	r.ask(s, x, s.terms(x.Args))
	around := s.loops
	if x.Op == api.StmtLoop {
		s.loops++
	}
	s.statements(x.A)
	s.statements(x.B)
	s.loops = around
}

// statementRow is a row of statements: what it names; how many Args; who asks what must be.
type statementRow struct {
	parts int
	args  int
	ask   func(s *scope, x api.Stmt, args []int)
}

// statementRowOf: what has no row has nobody to ask.
func statementRowOf(op int) statementRow {
	switch op {
	case api.StmtSet:
		return statementRow{partN, 1, (*scope).set}
	case api.StmtStore:
		return statementRow{0, 2, (*scope).store}
	case api.StmtIf:
		return statementRow{partA | partB, 1, (*scope).choice}
	case api.StmtLoop:
		return statementRow{partA, 0, (*scope).loop}
	case api.StmtBreak, api.StmtContinue:
		return statementRow{partN, 0, (*scope).leave}
	case api.StmtReturn:
		return statementRow{0, anyArgs, (*scope).giveBack}
	case api.StmtEmit:
		return statementRow{0, 1, (*scope).emit}
	case api.StmtPanic:
		return statementRow{partN, 0, (*scope).userPanic}
	case api.StmtCall:
		return statementRow{partN | partDst, anyArgs, (*scope).call}
	}
	return statementRow{}
}

func (s *scope) set(x api.Stmt, args []int) {
	fault.Must(isNumberOf(len(s.f.Locals), x.N), api.ErrCheckLocal)
	fault.Must(s.f.Locals[x.N] == args[0], api.ErrCheckType)
}

func (s *scope) store(_ api.Stmt, args []int) {
	fault.Must(s.pointsTo(args[0], args[1]), api.ErrCheckType)
}

func (s *scope) choice(_ api.Stmt, args []int) { fault.Must(s.isBool(args[0]), api.ErrCheckType) }

// loop: all that must be of it stands in its A.
func (s *scope) loop(api.Stmt, []int) {}

func (s *scope) leave(x api.Stmt, _ []int) { fault.Must(isNumberOf(s.loops, x.N), api.ErrCheckLoop) }

func (s *scope) giveBack(_ api.Stmt, args []int) {
	fault.Must(len(args) == len(s.f.Results), api.ErrCheckCount)
	fault.Must(slices.Equal(args, s.f.Results), api.ErrCheckType)
}

func (s *scope) emit(_ api.Stmt, args []int) { fault.Must(s.isPlain(args[0]), api.ErrCheckType) }

func (s *scope) userPanic(x api.Stmt, _ []int) {
	fault.Must(isNumberOf(maxPanic+1, x.N), api.ErrCheckConst)
}

func (s *scope) call(x api.Stmt, args []int) {
	fault.Must(isNumberOf(len(s.funcs), x.N), api.ErrCheckFunc)
	f := s.funcs[x.N]
	fault.Must(len(args) == f.Params && len(x.Dst) == len(f.Results), api.ErrCheckCount)
	fault.Must(slices.Equal(args, f.Locals[:f.Params]), api.ErrCheckType)
	fault.Must(s.areLocals(x.Dst), api.ErrCheckLocal)
	for i, n := range x.Dst {
		fault.Must(s.f.Locals[n] == f.Results[i], api.ErrCheckType)
	}
}

// areLocals tells whether all of these are locals, each once.
func (s *scope) areLocals(l []int) bool {
	for i, n := range l {
		if !isNumberOf(len(s.f.Locals), n) || slices.Contains(l[:i], n) {
			return false
		}
	}
	return true
}
