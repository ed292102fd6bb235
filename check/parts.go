package check

import (
	"slices"

	"gantry/api"
	"gantry/fault"
)

// The rows of terms that go into structs, pointers, slices and strings, or make them.

func (s *scope) field(x api.Expr, args []int) int { return s.fieldOf(args[0], x.N) }

func (s *scope) fieldOf(i int, n int64) int {
	fault.Must(s.kind(i) == api.TypeStruct, api.ErrCheckType)
	fields := s.entries[i].Fields
	fault.Must(isNumberOf(len(fields), n), api.ErrCheckField)
	return fields[n]
}

func (s *scope) structure(x api.Expr, args []int) int {
	fault.Must(s.kind(x.T) == api.TypeStruct && s.isValue(x.T), api.ErrCheckType)
	fields := s.entries[x.T].Fields
	fault.Must(len(args) == len(fields), api.ErrCheckCount)
	fault.Must(slices.Equal(args, fields), api.ErrCheckType)
	return x.T
}

func (s *scope) load(_ api.Expr, args []int) int {
	to, is := s.behind(args[0])
	fault.Must(is && s.isValue(to), api.ErrCheckType)
	return to
}

func (s *scope) address(x api.Expr, args []int) int {
	to, is := s.behind(args[0])
	fault.Must(is, api.ErrCheckType)
	fault.Must(s.pointsTo(x.T, s.fieldOf(to, x.N)), api.ErrCheckType)
	return x.T
}

func (s *scope) elementAt(x api.Expr, args []int) int {
	of, is := s.element(args[0])
	fault.Must(is && s.isInt(args[1]) && s.pointsTo(x.T, of), api.ErrCheckType)
	return x.T
}

func (s *scope) index(x api.Expr, args []int) int {
	fault.Must(s.kind(args[0]) == api.TypeString && s.isInt(args[1]) && s.kind(x.T) == api.KindU8, api.ErrCheckType)
	return x.T
}

func (s *scope) length(x api.Expr, args []int) int {
	fault.Must(s.isList(args[0]) && s.kind(x.T) == api.KindI64, api.ErrCheckType)
	return x.T
}

func (s *scope) slice(_ api.Expr, args []int) int {
	fault.Must(s.isList(args[0]) && s.isInt(args[1]) && s.isInt(args[2]), api.ErrCheckType)
	return args[0]
}

func (s *scope) fresh(x api.Expr, _ []int) int {
	fault.Must(s.kind(x.T) == api.KindPtr, api.ErrCheckType)
	return x.T
}

func (s *scope) manyFresh(x api.Expr, args []int) int {
	fault.Must(s.kind(x.T) == api.TypeSlice && s.isInt(args[0]), api.ErrCheckType)
	return x.T
}
