package draft

import (
	"math"
	"slices"

	"gantry/api"
	"gantry/check"
	"gantry/sample"
)

// maker makes terms and statements that are right, in a function of a program, most of which do not panic.
type maker struct {
	*sample.Turns
	p api.Program
	f api.Func
	n int // the number of the function
}

// valueTypes are the types here that a local may have.
func valueTypes() (l []int) {
	for k := range ManyTypes {
		if !slices.Contains([]int{Arr, Hold, Grid, Wide, Nil0}, k) {
			l = append(l, k)
		}
	}
	return l
}

// rare: one time of so many.
func (m *maker) rare(n int) bool { return m.Next(n) == 0 }

func (m *maker) whole() int { return sample.Pick(m.Turns, Wholes()) }

// number is a constant of the type k.
func (m *maker) number(k int) api.Expr {
	switch {
	case k == Yes:
		return Con(k, int64(m.Next(2)))
	case k == F64 && m.rare(3):
		return Float(sample.Pick(m.Turns, []uint64{0, Minus0, Inf, MinusInf, Nan, OtherNaN, 1, BitsOf(math.MaxFloat64), BitsOf(1 << 63), BitsOf(-1.5)}))
	case k == F64:
		return Float(BitsOf(float64(m.Next(2000)-1000) / 8))
	case m.rare(6):
		return Con(k, sample.Pick(m.Turns, []int64{Least(k), Greatest(k), Greatest(k) / 2}))
	case m.rare(4) && IsSigned(k):
		return Con(k, -int64(m.Next(9)))
	}
	return Con(k, int64(m.Next(20)))
}

// small is a whole number of any kind, that is mostly below n.
func (m *maker) small(n, nest int) api.Expr {
	k := m.whole()
	switch {
	case m.rare(20):
		return m.any(k, nest)
	case m.rare(40):
		return Con(k, sample.Pick(m.Turns, []int64{Least(k), Greatest(k)}))
	case m.rare(3):
		return Bin(api.BinAnd, m.any(k, nest), Con(k, 1))
	}
	return Con(k, int64(m.Next(n)))
}

// any tells a term of the type k, nested at most so deep.
func (m *maker) any(k, nest int) api.Expr {
	for {
		if x, is := m.try(k, nest); is {
			return x
		}
	}
}

// local tells one of that type; false, if there is none.
func (m *maker) local(k int) (api.Expr, bool) {
	var l []int
	for n, t := range m.f.Locals {
		if t == k {
			l = append(l, n)
		}
	}
	if len(l) == 0 {
		return api.Expr{}, false
	}
	return Loc(int64(sample.Pick(m.Turns, l))), true
}

func (m *maker) try(k, nest int) (api.Expr, bool) {
	way := m.Next(9)
	if nest <= 1 {
		way = m.Next(4)
	}
	switch way {
	case 0, 1:
		return m.leaf(k)
	case 2, 3:
		return m.local(k)
	case 4, 5:
		return m.reckoned(k, nest-1)
	case 6:
		return m.fielded(k, nest-1)
	case 7:
		return m.pointed(k, nest-1)
	}
	return m.listed(k, nest-1)
}

// leaf tells a term that needs no others, or few.
func (m *maker) leaf(k int) (api.Expr, bool) {
	x := Types()[k]
	switch {
	case isNumber(k) || k == Yes:
		return m.number(k), true
	case k == Text:
		return Str("gantry rows"[m.Next(3) : 3+m.Next(8)]), true
	case x.Kind == api.TypeStruct:
		var l []api.Expr
		for _, f := range x.Fields {
			l = append(l, m.any(f, 1))
		}
		return Made(k, l...), true
	case m.rare(12):
		return Null(k), true
	case isPointer(k):
		return Fresh(k), true
	}
	return Row(k, Con(m.whole(), int64(m.Next(5)))), true
}

func (m *maker) reckoned(k, nest int) (api.Expr, bool) {
	a := func(k int) api.Expr { return m.any(k, nest) }
	switch n := m.Next(5); {
	case isWhole(k) && n == 0:
		return Bin(int64(api.BinAdd+m.Next(3)), a(k), a(k)), true
	case isWhole(k) && n == 1 && !m.rare(4):
		return Bin(sample.Pick(m.Turns, []int64{api.BinDiv, api.BinRem}), a(k), Bin(api.BinOr, a(k), Con(k, 1))), true
	case isWhole(k) && n == 1:
		return Bin(sample.Pick(m.Turns, []int64{api.BinDiv, api.BinRem}), a(k), a(k)), true
	case isWhole(k) && n == 2:
		return Bin(int64(api.BinAnd+m.Next(3)), a(k), a(k)), true
	case isWhole(k) && n == 3:
		return Bin(int64(api.BinShl+m.Next(2)), a(k), m.small(70, nest)), true
	case isWhole(k) && m.rare(2):
		return Un(sample.Pick(m.Turns, []int64{api.UnNeg, api.UnCom}), a(k)), true
	case isNumber(k) && n >= 3:
		return As(k, a(sample.Pick(m.Turns, []int{F64, m.whole()}))), true
	case k == F64 && n == 2:
		return Un(api.UnNeg, a(k)), true
	case k == F64:
		return Bin(int64(api.BinAdd+m.Next(4)), a(k), a(k)), true
	case k == Yes && n == 0:
		return Bin(int64(api.BinAnd+m.Next(3)), a(k), a(k)), true
	case k == Yes && n == 1:
		return Un(api.UnNot, a(k)), true
	case k == Yes && n == 2:
		return Term(api.ExprAnd+m.Next(2), 0, 0, a(k), a(k)), true
	case k == Yes && n == 3:
		y := sample.Pick(m.Turns, []int{Yes, To64, ToPair})
		return Compare(int64(api.BinEq+m.Next(2)), a(y), a(y)), true
	case k == Yes:
		y := sample.Pick(m.Turns, []int{F64, m.whole()})
		return Compare(int64(api.BinEq+m.Next(6)), a(y), a(y)), true
	}
	return api.Expr{}, false
}

// fielded tells a field of a struct, or of one that a pointer points to.
func (m *maker) fielded(k, nest int) (api.Expr, bool) {
	all := Types()
	if isPointer(k) {
		to := sample.Pick(m.Turns, []int{ToPair, ToMix, ToHold, ToFull, ToThin})
		if n := slices.Index(all[all[to].Elem].Fields, all[k].Elem); n >= 0 {
			return Addr(k, int64(n), m.any(to, nest)), true
		}
		return api.Expr{}, false
	}
	of := sample.Pick(m.Turns, []int{Pair, Mix, Full, Thin})
	if n := slices.Index(all[of].Fields, k); n >= 0 {
		return Field(int64(n), m.any(of, nest)), true
	}
	return api.Expr{}, false
}

// pointed tells what a pointer points to, or where an element begins.
func (m *maker) pointed(k, nest int) (api.Expr, bool) {
	all := Types()
	if !isPointer(k) {
		for to, x := range all {
			if x.Kind == api.KindPtr && x.Elem == k {
				return Load(m.any(to, nest)), true
			}
		}
		return api.Expr{}, false
	}
	for of, x := range all {
		if x.Kind == api.TypeSlice && x.Elem == all[k].Elem && m.rare(2) {
			return Elem(k, m.any(of, nest), m.small(2, nest)), true
		}
	}
	switch all[k].Elem {
	case I64:
		return Elem(k, m.any(ToArr, nest), m.small(3, nest)), true
	case Arr:
		return Elem(k, m.any(ToGrid, nest), m.small(2, nest)), true
	case U8:
		return Elem(k, m.any(ToWide, nest), m.small(9, nest)), true
	}
	return api.Expr{}, false
}

func (m *maker) listed(k, nest int) (api.Expr, bool) {
	lists := []int{Text, List, Bits, Mixes, Smalls, Nones, Thins}
	switch {
	case k == U8:
		return Index(m.any(Text, nest), m.small(3, nest)), true
	case k == I64:
		return Length(m.any(sample.Pick(m.Turns, lists), nest)), true
	case isList(k) && m.rare(12):
		return Row(k, m.number(m.whole())), true
	case isList(k) && m.rare(2):
		return Row(k, m.small(9, nest)), true
	case isList(k) || k == Text:
		hi := Con(m.whole(), 1)
		if m.rare(3) {
			hi = m.small(4, nest)
		}
		return Slice(m.any(k, nest), m.small(2, nest), hi), true
	}
	return api.Expr{}, false
}

// statement tells one; loops: so many are around.
func (m *maker) statement(loops, nest int) api.Stmt {
	switch way := m.Next(14); {
	case way < 5:
		n := m.Next(len(m.f.Locals))
		return Set(int64(n), m.any(m.f.Locals[n], nest))
	case way == 5:
		to := sample.Pick(m.Turns, []int{To64, ToYes, ToU8, ToI16, ToF64, ToText, ToPair, ToNone, ToList, ToMix, ToFull, ToThin, ToTo, Self})
		return Store(m.any(to, nest), m.any(Types()[to].Elem, nest))
	case way < 8 && nest > 1:
		return When(m.any(Yes, nest), m.statements(loops, nest-1), m.statements(loops, nest-1))
	case way == 8 && nest > 1:
		return m.loop(loops, nest)
	case way == 9 && loops > 0 && m.rare(2):
		return sample.Pick(m.Turns, []func(int64) api.Stmt{Leave, Again})(int64(m.Next(loops)))
	case way == 10 && m.rare(8):
		return m.end()
	case way > 10:
		if x, is := m.call(nest); is {
			return x
		}
	}
	return Emit(m.any(m.Next(Text), nest))
}

// loop: the local 0 goes down, and most loops end when it is below 0.
func (m *maker) loop(loops, nest int) api.Stmt {
	a := Body(When(Compare(api.BinLt, Loc(0), Num(0)), Body(Leave(int64(m.Next(loops+1)))), nil), Set(0, Bin(api.BinSub, Loc(0), Num(1))))
	if m.rare(5) {
		a = nil
	}
	return Loop(append(a, m.statements(loops+1, nest-1)...)...)
}

func (m *maker) statements(loops, nest int) (l []api.Stmt) {
	for range 1 + m.Next(4) {
		l = append(l, m.statement(loops, nest))
	}
	return l
}

func (m *maker) end() api.Stmt {
	if m.rare(5) {
		return Quit(int64(m.Next(256)))
	}
	var l []api.Expr
	for _, k := range m.f.Results {
		l = append(l, m.any(k, 2))
	}
	return Ret(l...)
}

// call: false, if the locals have no room for the results. Most calls are of functions further on: they come back.
func (m *maker) call(nest int) (api.Stmt, bool) {
	n := m.Next(len(m.p.Funcs))
	if n <= m.n && !m.rare(6) {
		return api.Stmt{}, false
	}
	g := m.p.Funcs[n]
	x := Call(int64(n), nil)
	for _, k := range g.Results {
		free := -1
		for i, t := range m.f.Locals {
			if t == k && !slices.Contains(x.Dst, i) {
				free = i
			}
		}
		if free < 0 {
			return x, false
		}
		x.Dst = append(x.Dst, free)
	}
	for _, k := range g.Locals[:g.Params] {
		x.Args = append(x.Args, m.any(k, min(nest, 2)))
	}
	return x, true
}

// head is a function without statements: its local 0 is an i64.
func head(t *sample.Turns, first bool) api.Func {
	f := api.Func{Locals: []int{I64}, Results: []int{I64}}
	for range 3 + t.Next(14) {
		f.Locals = append(f.Locals, sample.Pick(t, valueTypes()))
	}
	f.Params = 1 + t.Next(min(len(f.Locals), 5))
	if first {
		for n := 1; n < f.Params; n++ {
			f.Locals[n] = t.Next(Text)
		}
		return f
	}
	kinds := []int{I64, Pair, Text, List, To64, Yes, Mix, None}
	f.Results = nil
	for range t.Next(4) {
		f.Results = append(f.Results, sample.Pick(t, kinds))
	}
	f.Locals = append(f.Locals, kinds...)
	return f
}

// one tells a program, and what its function 0 is given. It may have too many nodes.
func one(t *sample.Turns) (api.Program, []uint64) {
	p := Program()
	for i := range 1 + t.Next(4) {
		p.Funcs = append(p.Funcs, head(t, i == 0))
	}
	for i, f := range p.Funcs {
		m := &maker{Turns: t, p: p, f: f, n: i}
		var l []api.Stmt
		for n := f.Params; n < len(f.Locals); n++ {
			if !m.rare(5) {
				x, _ := m.leaf(f.Locals[n])
				l = append(l, Set(int64(n), x))
			}
		}
		l = append(l, m.statements(0, 3)...)
		l = append(l, m.statements(0, 2)...)
		p.Funcs[i].Body = append(l, m.end())
	}
	m := &maker{Turns: t}
	args := []uint64{uint64(t.Next(6))}
	for _, k := range p.Funcs[0].Locals[1:p.Funcs[0].Params] {
		args = append(args, uint64(m.number(k).N))
	}
	return p, args
}

// Any tells a program that checks, and what its function 0 is given.
func Any(t *sample.Turns) (api.Program, []uint64) {
	for {
		if p, args := one(t); check.Check(p) == api.OK {
			return p, args
		}
	}
}
