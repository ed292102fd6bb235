package source_test

import (
	"math"
	"slices"

	"gantry/api"
)

// turns tells numbers that look like any others, the same in each run.
type turns uint64

func (s *turns) next(n int) int {
	*s = *s*6364136223846793005 + 1442695040888963407
	return int(uint64(*s) >> 33 % uint64(n))
}

func pick[T any](s *turns, l []T) T { return l[s.next(len(l))] }

// rare: one time of so many.
func (s *turns) rare(n int) bool { return s.next(n) == 0 }

// maker makes terms and statements that are right, in a function of a program, most of which do not panic.
type maker struct {
	*turns
	p api.Program
	f api.Func
	n int // the number of the function
}

func isWhole(k int) bool { return k == i64 || k >= i8 && k <= u64 }

func isNumber(k int) bool { return isWhole(k) || k == f64 }

func isList(k int) bool { return kindOf(k) == api.TypeSlice }

func isPointer(k int) bool { return kindOf(k) == api.KindPtr }

// valueTypes are the types here that a local may have.
func valueTypes() (l []int) {
	for k := range manyTypes {
		if !slices.Contains([]int{arr, hold, grid, wide, nil0}, k) {
			l = append(l, k)
		}
	}
	return l
}

func (m *maker) whole() int { return pick(m.turns, wholes()) }

// number is a constant of the type k.
func (m *maker) number(k int) api.Expr {
	switch {
	case k == yes:
		return con(k, int64(m.next(2)))
	case k == f64 && m.rare(3):
		return float(pick(m.turns, []uint64{0, minus0, inf, minusInf, nan, otherNaN, 1, bitsOf(math.MaxFloat64), bitsOf(1 << 63), bitsOf(-1.5)}))
	case k == f64:
		return float(bitsOf(float64(m.next(2000)-1000) / 8))
	case m.rare(6):
		return con(k, pick(m.turns, []int64{least(k), greatest(k), greatest(k) / 2}))
	case m.rare(4) && isSigned(k):
		return con(k, -int64(m.next(9)))
	}
	return con(k, int64(m.next(20)))
}

// small is a whole number of any kind, that is mostly below n.
func (m *maker) small(n, nest int) api.Expr {
	k := m.whole()
	switch {
	case m.rare(20):
		return m.any(k, nest)
	case m.rare(40):
		return con(k, pick(m.turns, []int64{least(k), greatest(k)}))
	case m.rare(3):
		return bin(api.BinAnd, m.any(k, nest), con(k, 1))
	}
	return con(k, int64(m.next(n)))
}

// any tells a term of the type k, nested at most so deep.
func (m *maker) any(k, nest int) api.Expr {
	for {
		if x, is := m.try(k, nest); is {
			return x
		}
	}
}

// local tells one of that type; false, if there is none.
func (m *maker) local(k int) (api.Expr, bool) {
	var l []int
	for n, t := range m.f.Locals {
		if t == k {
			l = append(l, n)
		}
	}
	if len(l) == 0 {
		return api.Expr{}, false
	}
	return loc(int64(pick(m.turns, l))), true
}

func (m *maker) try(k, nest int) (api.Expr, bool) {
	way := m.next(9)
	if nest <= 1 {
		way = m.next(4)
	}
	switch way {
	case 0, 1:
		return m.leaf(k)
	case 2, 3:
		return m.local(k)
	case 4, 5:
		return m.reckoned(k, nest-1)
	case 6:
		return m.fielded(k, nest-1)
	case 7:
		return m.pointed(k, nest-1)
	}
	return m.listed(k, nest-1)
}

// leaf tells a term that needs no others, or few.
func (m *maker) leaf(k int) (api.Expr, bool) {
	x := typesHere()[k]
	switch {
	case isNumber(k) || k == yes:
		return m.number(k), true
	case k == text:
		return str("gantry rows"[m.next(3) : 3+m.next(8)]), true
	case x.Kind == api.TypeStruct:
		var l []api.Expr
		for _, f := range x.Fields {
			l = append(l, m.any(f, 1))
		}
		return made(k, l...), true
	case m.rare(12):
		return null(k), true
	case isPointer(k):
		return fresh(k), true
	}
	return row(k, con(m.whole(), int64(m.next(5)))), true
}

func (m *maker) reckoned(k, nest int) (api.Expr, bool) {
	a := func(k int) api.Expr { return m.any(k, nest) }
	switch n := m.next(5); {
	case isWhole(k) && n == 0:
		return bin(int64(api.BinAdd+m.next(3)), a(k), a(k)), true
	case isWhole(k) && n == 1 && !m.rare(4):
		return bin(pick(m.turns, []int64{api.BinDiv, api.BinRem}), a(k), bin(api.BinOr, a(k), con(k, 1))), true
	case isWhole(k) && n == 1:
		return bin(pick(m.turns, []int64{api.BinDiv, api.BinRem}), a(k), a(k)), true
	case isWhole(k) && n == 2:
		return bin(int64(api.BinAnd+m.next(3)), a(k), a(k)), true
	case isWhole(k) && n == 3:
		return bin(int64(api.BinShl+m.next(2)), a(k), m.small(70, nest)), true
	case isWhole(k) && m.rare(2):
		return un(pick(m.turns, []int64{api.UnNeg, api.UnCom}), a(k)), true
	case isNumber(k) && n >= 3:
		return as(k, a(pick(m.turns, []int{f64, m.whole()}))), true
	case k == f64 && n == 2:
		return un(api.UnNeg, a(k)), true
	case k == f64:
		return bin(int64(api.BinAdd+m.next(4)), a(k), a(k)), true
	case k == yes && n == 0:
		return bin(int64(api.BinAnd+m.next(3)), a(k), a(k)), true
	case k == yes && n == 1:
		return un(api.UnNot, a(k)), true
	case k == yes && n == 2:
		return term(api.ExprAnd+m.next(2), 0, 0, a(k), a(k)), true
	case k == yes && n == 3:
		y := pick(m.turns, []int{yes, to64, toPair})
		return compare(int64(api.BinEq+m.next(2)), a(y), a(y)), true
	case k == yes:
		y := pick(m.turns, []int{f64, m.whole()})
		return compare(int64(api.BinEq+m.next(6)), a(y), a(y)), true
	}
	return api.Expr{}, false
}

// fielded tells a field of a struct, or of one that a pointer points to.
func (m *maker) fielded(k, nest int) (api.Expr, bool) {
	all := typesHere()
	if isPointer(k) {
		to := pick(m.turns, []int{toPair, toMix, toHold, toFull, toThin})
		if n := slices.Index(all[all[to].Elem].Fields, all[k].Elem); n >= 0 {
			return addr(k, int64(n), m.any(to, nest)), true
		}
		return api.Expr{}, false
	}
	of := pick(m.turns, []int{pair, mix, full, thin})
	if n := slices.Index(all[of].Fields, k); n >= 0 {
		return field(int64(n), m.any(of, nest)), true
	}
	return api.Expr{}, false
}

// pointed tells what a pointer points to, or where an element begins.
func (m *maker) pointed(k, nest int) (api.Expr, bool) {
	all := typesHere()
	if !isPointer(k) {
		for to, x := range all {
			if x.Kind == api.KindPtr && x.Elem == k {
				return load(m.any(to, nest)), true
			}
		}
		return api.Expr{}, false
	}
	for of, x := range all {
		if x.Kind == api.TypeSlice && x.Elem == all[k].Elem && m.rare(2) {
			return elem(k, m.any(of, nest), m.small(2, nest)), true
		}
	}
	switch all[k].Elem {
	case i64:
		return elem(k, m.any(toArr, nest), m.small(3, nest)), true
	case arr:
		return elem(k, m.any(toGrid, nest), m.small(2, nest)), true
	case u8:
		return elem(k, m.any(toWide, nest), m.small(9, nest)), true
	}
	return api.Expr{}, false
}

func (m *maker) listed(k, nest int) (api.Expr, bool) {
	lists := []int{text, list, bits, mixes, smalls, nones, thins}
	switch {
	case k == u8:
		return index(m.any(text, nest), m.small(3, nest)), true
	case k == i64:
		return length(m.any(pick(m.turns, lists), nest)), true
	case isList(k) && m.rare(12):
		return row(k, m.number(m.whole())), true
	case isList(k) && m.rare(2):
		return row(k, m.small(9, nest)), true
	case isList(k) || k == text:
		hi := con(m.whole(), 1)
		if m.rare(3) {
			hi = m.small(4, nest)
		}
		return slice(m.any(k, nest), m.small(2, nest), hi), true
	}
	return api.Expr{}, false
}

// statement tells one; loops: so many are around.
func (m *maker) statement(loops, nest int) api.Stmt {
	switch way := m.next(14); {
	case way < 5:
		n := m.next(len(m.f.Locals))
		return set(int64(n), m.any(m.f.Locals[n], nest))
	case way == 5:
		to := pick(m.turns, []int{to64, toYes, toU8, toI16, toF64, toText, toPair, toNone, toList, toMix, toFull, toThin, toTo, self})
		return store(m.any(to, nest), m.any(typesHere()[to].Elem, nest))
	case way < 8 && nest > 1:
		return when(m.any(yes, nest), m.statements(loops, nest-1), m.statements(loops, nest-1))
	case way == 8 && nest > 1:
		return m.loop(loops, nest)
	case way == 9 && loops > 0 && m.rare(2):
		return pick(m.turns, []func(int64) api.Stmt{leave, again})(int64(m.next(loops)))
	case way == 10 && m.rare(8):
		return m.end()
	case way > 10:
		if x, is := m.call(nest); is {
			return x
		}
	}
	return emit(m.any(m.next(text), nest))
}

// loop: the local 0 goes down, and most loops end when it is below 0.
func (m *maker) loop(loops, nest int) api.Stmt {
	a := body(when(compare(api.BinLt, loc(0), num(0)), body(leave(int64(m.next(loops+1)))), nil), set(0, bin(api.BinSub, loc(0), num(1))))
	if m.rare(5) {
		a = nil
	}
	return loop(append(a, m.statements(loops+1, nest-1)...)...)
}

func (m *maker) statements(loops, nest int) (l []api.Stmt) {
	for range 1 + m.next(4) {
		l = append(l, m.statement(loops, nest))
	}
	return l
}

func (m *maker) end() api.Stmt {
	if m.rare(5) {
		return quit(int64(m.next(256)))
	}
	var l []api.Expr
	for _, k := range m.f.Results {
		l = append(l, m.any(k, 2))
	}
	return ret(l...)
}

// call: false, if the locals have no room for the results. Most calls are of functions further on: they come back.
func (m *maker) call(nest int) (api.Stmt, bool) {
	n := m.next(len(m.p.Funcs))
	if n <= m.n && !m.rare(6) {
		return api.Stmt{}, false
	}
	g := m.p.Funcs[n]
	x := call(int64(n), nil)
	for _, k := range g.Results {
		free := -1
		for i, t := range m.f.Locals {
			if t == k && !slices.Contains(x.Dst, i) {
				free = i
			}
		}
		if free < 0 {
			return x, false
		}
		x.Dst = append(x.Dst, free)
	}
	for _, k := range g.Locals[:g.Params] {
		x.Args = append(x.Args, m.any(k, min(nest, 2)))
	}
	return x, true
}

// head is a function without statements: its local 0 is an i64.
func (s *turns) head(first bool) api.Func {
	f := api.Func{Locals: []int{i64}, Results: []int{i64}}
	for range 3 + s.next(14) {
		f.Locals = append(f.Locals, pick(s, valueTypes()))
	}
	f.Params = 1 + s.next(min(len(f.Locals), 5))
	if first {
		for n := 1; n < f.Params; n++ {
			f.Locals[n] = s.next(text)
		}
		return f
	}
	f.Results = nil
	for range s.next(4) {
		f.Results = append(f.Results, pick(s, []int{i64, pair, text, list, to64, yes, mix, none}))
	}
	f.Locals = append(f.Locals, i64, pair, text, list, to64, yes, mix, none)
	return f
}

// program tells one that checks, and what its function 0 is given.
func (s *turns) program() (api.Program, []uint64) {
	p := program()
	for i := range 1 + s.next(4) {
		p.Funcs = append(p.Funcs, s.head(i == 0))
	}
	for i, f := range p.Funcs {
		m := &maker{turns: s, p: p, f: f, n: i}
		var l []api.Stmt
		for n := f.Params; n < len(f.Locals); n++ {
			if !s.rare(5) {
				x, _ := m.leaf(f.Locals[n])
				l = append(l, set(int64(n), x))
			}
		}
		l = append(l, m.statements(0, 3)...)
		l = append(l, m.statements(0, 2)...)
		p.Funcs[i].Body = append(l, m.end())
	}
	m := &maker{turns: s}
	args := words(uint64(s.next(6)))
	for _, k := range p.Funcs[0].Locals[1:p.Funcs[0].Params] {
		args = append(args, uint64(m.number(k).N))
	}
	return p, args
}
