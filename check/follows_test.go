package check

import (
	"math"
	"reflect"
	"slices"
	"testing"

	"gantry/api"
)

// turns tells numbers that look like any others, the same in each run.
type turns uint64

func (s *turns) next(n int) int {
	*s = *s*6364136223846793005 + 1442695040888963407
	return int(uint64(*s) >> 33 % uint64(n))
}

func pick[T any](s *turns, l []T) T { return l[s.next(len(l))] }

// maker makes terms and statements that are right, in a function of a program.
type maker struct {
	*turns
	p api.Program
	f api.Func
}

// valueTypes are the types here that a local may have.
func valueTypes() (l []int) {
	for k := range manyType {
		if !isNoValue(k) {
			l = append(l, k)
		}
	}
	return l
}

func (m *maker) whole() int {
	return pick(m.turns, []int{i64, num2, i8, i16, i32, u8, u82, u16, u32, u64})
}

// pointer tells a type that points to that one; -1, if there is none.
func (m *maker) pointer(to int) int {
	var l []int
	for i, x := range m.p.Types {
		if x.Kind == api.KindPtr && x.Elem == to {
			l = append(l, i)
		}
	}
	if len(l) == 0 {
		return -1
	}
	return pick(m.turns, l)
}

// any tells a term of the type k, nested at most so deep.
func (m *maker) any(k, nest int) api.Expr {
	for {
		if x, is := m.try(k, nest); is {
			return x
		}
	}
}

// try takes one of many ways to such a term; false, if the type has not this one.
func (m *maker) try(k, nest int) (api.Expr, bool) {
	way := m.next(14)
	if nest <= 1 {
		way %= 3
	}
	a := func(k int) api.Expr { return m.any(k, nest-1) }
	switch x := m.p.Types[k]; way {
	case 0:
		return m.leaf(k)
	case 1:
		var l []int
		for n, t := range m.f.Locals {
			if t == k {
				l = append(l, n)
			}
		}
		if len(l) > 0 {
			return loc(int64(pick(m.turns, l))), true
		}
	case 2:
		if x.Kind == api.KindPtr {
			return term(api.ExprNew, k, 0), true
		}
	case 3, 4:
		return m.reckoned(k, nest)
	case 5:
		if isBit(k) {
			y := pick(m.turns, []int{i64, u8, f64, i32})
			return term(api.ExprBin, k, int64(api.BinEq+m.next(6)), a(y), a(y)), true
		}
	case 6:
		if to := m.pointer(k); to >= 0 {
			return term(api.ExprLoad, 0, 0, a(to)), true
		}
	case 7:
		if x.Kind == api.TypeStruct {
			var l []api.Expr
			for _, f := range x.Fields {
				l = append(l, m.any(f, min(nest-1, 2)))
			}
			return term(api.ExprStruct, k, 0, l...), true
		}
	case 8:
		if y := pick(m.turns, []int{pair, full}); slices.Contains(m.p.Types[y].Fields, k) {
			n := slices.Index(m.p.Types[y].Fields, k)
			return term(api.ExprField, 0, int64(n), a(y)), true
		}
	case 9:
		if y := pick(m.turns, []int{toPair, toHolds, toOver, toPair2}); x.Kind == api.KindPtr {
			if n := slices.Index(m.p.Types[m.p.Types[y].Elem].Fields, x.Elem); n >= 0 {
				return term(api.ExprAddr, k, int64(n), a(y)), true
			}
		}
	case 10:
		if y := pick(m.turns, []int{list, list8, lists, listArr}); x.Kind == api.KindPtr && m.p.Types[y].Elem == x.Elem {
			return term(api.ExprElem, k, 0, a(y), a(m.whole())), true
		}
		if x.Kind == api.KindPtr && x.Elem == i64 {
			return term(api.ExprElem, k, 0, a(toArr), a(m.whole())), true
		}
	default:
		return m.listed(k, nest)
	}
	return api.Expr{}, false
}

// leaf tells a constant, a text, a nil.
func (m *maker) leaf(k int) (api.Expr, bool) {
	switch x := m.p.Types[k]; {
	case isBit(k):
		return con(k, int64(m.next(2))), true
	case isNumber(k):
		return con(k, int64(m.next(128))), true
	case isString(k):
		s := string(rune('a' + m.next(26)))
		return api.Expr{Op: api.ExprStr, T: k, S: s}, true
	case x.Kind == api.KindPtr, x.Kind == api.TypeSlice:
		return term(api.ExprNil, k, 0), true
	case k == none:
		return term(api.ExprStruct, k, 0), true
	case k == pair:
		return term(api.ExprStruct, k, 0, num(1), con(u8, 2)), true
	case k == full:
		return term(api.ExprStruct, k, 0, slices.Repeat([]api.Expr{num(3)}, api.MaxWords)...), true
	}
	return api.Expr{}, false
}

func (m *maker) reckoned(k, nest int) (api.Expr, bool) {
	a := func(k int) api.Expr { return m.any(k, nest-1) }
	switch n := m.next(4); {
	case isWhole(k) && n == 0:
		return bin(int64(api.BinAdd+m.next(8)), a(k), a(k)), true
	case isWhole(k) && n == 1:
		return bin(int64(api.BinShl+m.next(2)), a(k), a(m.whole())), true
	case isNumber(k) && n == 2:
		return term(api.ExprConv, k, 0, a(pick(m.turns, []int{i64, f64, u8, i16, f642}))), true
	case isNumber(k):
		return un(api.UnNeg, a(k)), true
	case isBit(k) && n == 0:
		return un(api.UnNot, a(k)), true
	case isBit(k) && n == 1:
		return term(api.ExprAnd+m.next(2), 0, 0, a(k), a(k)), true
	case isBit(k):
		return bin(int64(api.BinAnd+m.next(3)), a(k), a(k)), true
	}
	return api.Expr{}, false
}

func (m *maker) listed(k, nest int) (api.Expr, bool) {
	a := func(k int) api.Expr { return m.any(k, nest-1) }
	switch n := m.next(2); {
	case k == u8 || k == u82:
		return term(api.ExprIndex, k, 0, a(pick(m.turns, []int{text, text2})), a(m.whole())), true
	case k == i64 || k == num2:
		return term(api.ExprLen, k, 0, a(pick(m.turns, []int{text, list, lists, listArr, text2}))), true
	case isSlice(k) && n == 0:
		return term(api.ExprMake, k, 0, a(m.whole())), true
	case isSlice(k) || isString(k):
		return term(api.ExprSlice, 0, 0, a(k), a(m.whole()), a(m.whole())), true
	}
	return api.Expr{}, false
}

// statement tells one; loops: so many are around.
func (m *maker) statement(loops, nest int) api.Stmt {
	switch way := m.next(12); {
	case way < 3 && len(m.f.Locals) > 0:
		n := m.next(len(m.f.Locals))
		return set(int64(n), m.any(m.f.Locals[n], nest))
	case way == 3:
		to := pick(m.turns, []int{to64, toU8, toPair, toText, toSelf, toPtr, toNone})
		return store(m.any(to, nest), m.any(m.p.Types[to].Elem, nest))
	case way < 6 && nest > 1:
		return when(m.any(pick(m.turns, []int{yes, yes2}), nest), m.statements(loops, nest-1), m.statements(loops, nest-1))
	case way == 6 && nest > 1:
		return loop(m.statements(loops+1, nest-1)...)
	case way == 7 && loops > 0:
		return pick(m.turns, []func(int64) api.Stmt{leave, again})(int64(m.next(loops)))
	case way == 8 && m.next(3) == 0:
		return m.end()
	case way == 9:
		if x, is := m.call(nest); is {
			return x
		}
	}
	return emit(m.any(m.next(text), nest))
}

func (m *maker) statements(loops, nest int) (l []api.Stmt) {
	for range m.next(4) {
		l = append(l, m.statement(loops, nest))
	}
	return l
}

func (m *maker) end() api.Stmt {
	if m.next(4) == 0 {
		return quit(int64(m.next(256)))
	}
	var l []api.Expr
	for _, k := range m.f.Results {
		l = append(l, m.any(k, 2))
	}
	return ret(l...)
}

// call: false, if the locals have no room for the results.
func (m *maker) call(nest int) (api.Stmt, bool) {
	n := m.next(len(m.p.Funcs))
	g := m.p.Funcs[n]
	x := call(int64(n), nil)
	for _, k := range g.Results {
		free := -1
		for i, t := range m.f.Locals {
			if t == k && !slices.Contains(x.Dst, i) {
				free = i
			}
		}
		if free < 0 {
			return x, false
		}
		x.Dst = append(x.Dst, free)
	}
	for _, k := range g.Locals[:g.Params] {
		x.Args = append(x.Args, m.any(k, min(nest, 2)))
	}
	return x, true
}

// program tells one that is right.
func (s *turns) program() api.Program {
	p := program()
	l := valueTypes()
	for i := range 1 + s.next(4) {
		f := api.Func{Results: []int{pick(s, []int{i64, num2})}}
		for range s.next(20) {
			f.Locals = append(f.Locals, pick(s, l))
		}
		f.Params = min(len(f.Locals), s.next(api.MaxParams+1))
		if i == 0 {
			f.Params = min(f.Params, api.ArgRegs)
			for n := range f.Params {
				f.Locals[n] = s.next(text)
			}
		} else {
			f.Results = nil
			for range s.next(4) {
				f.Results = append(f.Results, pick(s, append(l, f.Locals...)))
			}
		}
		p.Funcs = append(p.Funcs, f)
	}
	for i := range p.Funcs {
		m := maker{turns: s, p: p, f: p.Funcs[i]}
		b := append(m.statements(0, 1+s.next(4)), m.statements(0, 4)...)
		switch s.next(6) {
		case 0:
			b = append(b, when(con(yes2, 0), append(m.statements(0, 2), m.end()), body(m.end())))
		case 1:
			b = append(b, loop(emit(m.any(i64, 3)), loop(leave(0), again(1))))
		default:
			b = append(b, m.end())
		}
		p.Funcs[i].Body = append(b, m.statements(0, 1)...)
	}
	return p
}

// nodes tells where all statements and terms of a program stand.
type nodes struct {
	statements []*api.Stmt
	terms      []*api.Expr
	in         []int // the functions of the terms
}

func (n *nodes) addTerms(l []api.Expr, f int) {
	for i := range l {
		n.terms, n.in = append(n.terms, &l[i]), append(n.in, f)
		n.addTerms(l[i].Args, f)
	}
}

func (n *nodes) addStatements(l []api.Stmt, f int) {
	for i := range l {
		n.statements = append(n.statements, &l[i])
		n.addTerms(l[i].Args, f)
		n.addStatements(l[i].A, f)
		n.addStatements(l[i].B, f)
	}
}

func nodesOf(p api.Program) *nodes {
	n := &nodes{}
	for i, f := range p.Funcs {
		n.addStatements(f.Body, i)
	}
	return n
}

// copied tells a program that has no memory in common with p.
func copied(p api.Program) api.Program {
	p.Types, p.Funcs = slices.Clone(p.Types), slices.Clone(p.Funcs)
	for i := range p.Types {
		p.Types[i].Fields = slices.Clone(p.Types[i].Fields)
	}
	for i := range p.Funcs {
		f := &p.Funcs[i]
		f.Locals, f.Results, f.Body = slices.Clone(f.Locals), slices.Clone(f.Results), copiedStatements(f.Body)
	}
	return p
}

func copiedStatements(l []api.Stmt) []api.Stmt {
	l = slices.Clone(l)
	for i := range l {
		l[i].Args, l[i].Dst, l[i].A, l[i].B = copiedTerms(l[i].Args), slices.Clone(l[i].Dst), copiedStatements(l[i].A), copiedStatements(l[i].B)
	}
	return l
}

func copiedTerms(l []api.Expr) []api.Expr {
	l = slices.Clone(l)
	for i := range l {
		l[i].Args = copiedTerms(l[i].Args)
	}
	return l
}

// less tells a list without one of it, or with one twice.
func less[T any](s *turns, l []T) []T {
	if len(l) == 0 {
		return l
	}
	i := s.next(len(l))
	if s.next(3) == 0 {
		return slices.Insert(l, i, l[i])
	}
	return slices.Delete(l, i, i+1)
}

func (s *turns) odd() int64 {
	return pick(s, []int64{-1, 0, 1, 2, 3, 7, 16, 17, 31, 32, 255, 256, 1 << 32, math.MaxInt64, math.MinInt64, int64(s.next(40))})
}

func (s *turns) spoilTerm(x *api.Expr, other api.Expr) {
	switch s.next(7) {
	case 0:
		x.Op = s.next(api.ExprMake + 2)
	case 1, 2:
		x.T = s.next(manyType + 2)
	case 3:
		x.N = s.odd()
	case 4:
		x.Args = less(s, x.Args)
	case 5:
		*x = other
	case 6:
		if x.S += "b"; s.next(2) == 0 {
			x.S = ""
		}
	}
}

func (s *turns) spoilStatement(x *api.Stmt, other api.Stmt) {
	switch s.next(8) {
	case 0:
		x.Op = s.next(api.StmtCall + 2)
	case 1, 2:
		x.N = s.odd()
	case 3:
		x.Args = less(s, x.Args)
	case 4:
		if len(x.Dst) > 0 {
			x.Dst[s.next(len(x.Dst))] = s.next(20)
		} else {
			x.Dst = many(s.next(2), 0)
		}
	case 5:
		x.A, x.B = x.B, x.A
	case 6:
		*x = other
	case 7:
		x.A = less(s, x.A)
	}
}

func (s *turns) spoilHead(p *api.Program) {
	f := &p.Funcs[s.next(len(p.Funcs))]
	switch s.next(7) {
	case 0:
		f.Params = s.next(12) - 1
	case 1:
		f.Locals = append(f.Locals, s.next(manyType+1))
	case 2:
		f.Results = append(f.Results, s.next(manyType+1))
	case 3:
		f.Locals = less(s, f.Locals)
	case 4:
		f.Results = less(s, f.Results)
	case 5:
		f.Body = less(s, f.Body)
	case 6:
		p.Types[s.next(manyType)] = pick(s, p.Types)
	}
}

// spoil changes a program at one place or some.
func (s *turns) spoil(p api.Program) api.Program {
	p = copied(p)
	for range 1 + s.next(3) {
		switch n := nodesOf(copied(p)); s.next(5) {
		case 0, 1:
			if l := nodesOf(p); len(l.terms) > 0 {
				s.spoilTerm(pick(s, l.terms), *pick(s, n.terms))
			}
		case 2, 3:
			if l := nodesOf(p); len(l.statements) > 0 {
				s.spoilStatement(pick(s, l.statements), *pick(s, n.statements))
			}
		case 4:
			s.spoilHead(&p)
		}
	}
	return p
}

// TestRight: P9.1, P9.2: many programs that are right, and each of their terms' types; their texts, one by one.
func TestRight(t *testing.T) {
	s := turns(9)
	terms, most := map[int]int{}, 0
	for range 400 {
		p := s.program()
		if e := Check(p); e != api.OK {
			t.Fatalf("%+v: %d", p.Funcs, e)
		}
		n := nodesOf(p)
		var data []byte
		for i, x := range n.terms {
			terms[x.Op]++
			data = append(data, x.S...)
			if s.next(8) > 0 {
				continue
			}
			told, e := TypeOf(p, n.in[i], *x)
			want, no := model{p, p.Funcs[n.in[i]]}.term(*x)
			if told != want || e != no || e != api.OK {
				t.Fatalf("%+v: %d, %d, not %d", *x, told, e, want)
			}
		}
		if b, e := Data(p); e != api.OK || string(b) != string(data) {
			t.Fatalf("%+v: %q, %d, not %q", p.Funcs, b, e, data)
		}
		most = max(most, len(n.terms)+len(n.statements))
	}
	for op := api.ExprConst; op <= api.ExprMake; op++ {
		if terms[op] < 20 {
			t.Errorf("of %d only %d", op, terms[op])
		}
	}
	if most < 300 {
		t.Errorf("no more than %d nodes", most)
	}
}

// TestSpoiled: P9.1, P9.2: many programs that are spoiled here and there, held against the model.
func TestSpoiled(t *testing.T) {
	s := turns(10)
	seen := map[api.Errno]int{}
	for range 1000 {
		p := s.program()
		for range 20 {
			q := s.spoil(p)
			e, want := Check(q), checks(q)
			if e != want {
				t.Fatalf("%+v: %d, not %d", q, e, want)
			}
			seen[e]++
		}
	}
	for e := api.ErrCheckTypes; e <= api.ErrCheckReturn; e++ {
		if seen[e] < 10 {
			t.Errorf("of %d only %d", e, seen[e])
		}
	}
	if seen[api.OK] < 1000 || seen[api.ErrRawForm] < 20 {
		t.Errorf("too few of a sort: %d", seen)
	}
}

// TestSpoiledTerms: P9.2: many terms that are spoiled, held against the model.
func TestSpoiledTerms(t *testing.T) {
	s := turns(11)
	seen := map[api.Errno]int{}
	m := maker{turns: &s, p: around(), f: around().Funcs[1]}
	l := valueTypes()
	for range 30000 {
		x := copiedTerms([]api.Expr{m.any(pick(&s, l), 1+s.next(4))})
		n := &nodes{}
		n.addTerms(x, 1)
		s.spoilTerm(pick(&s, n.terms), m.any(pick(&s, l), 2))
		told, e := TypeOf(m.p, 1, x[0])
		want, no := model{m.p, m.f}.term(x[0])
		if told != want || e != no {
			t.Fatalf("%+v: %d, %d, not %d, %d", x[0], told, e, want, no)
		}
		seen[e]++
	}
	for _, e := range []api.Errno{api.OK, api.ErrCheckLocal, api.ErrCheckType, api.ErrCheckCount, api.ErrCheckConst, api.ErrCheckField, api.ErrCheckOp} {
		if seen[e] < 10 {
			t.Errorf("of %d only %d", e, seen[e])
		}
	}
}

// TestAllRows: P9.2: each Op and operation, of Args of each of few types, with each T: held against the model.
func TestAllRows(t *testing.T) {
	few := []int{0, 1, 2, 3, 4, 5, 6, 7, 8, 9, 10}
	p := api.Program{Types: []api.Type{
		kind(api.KindI64), kind(api.KindBool), kind(api.KindU8), kind(api.KindF64), kind(api.TypeString),
		structure(0, 2), ptrTo(5), sliceOf(0), ptrTo(0), {Kind: api.TypeArray, Elem: 0, N: 2}, ptrTo(9),
	}}
	locals := []int{0, 1, 2, 3, 4, 5, 6, 7, 8, 10}
	p.Funcs = []api.Func{{Locals: locals, Results: []int{0}, Body: body(quit(0))}}
	m := model{p, p.Funcs[0]}
	right := 0
	ask := func(x api.Expr) {
		told, e := TypeOf(p, 0, x)
		if want, no := m.term(x); told != want || e != no {
			t.Fatalf("%+v: %d, %d, not %d, %d", x, told, e, want, no)
		}
		if e == api.OK {
			right++
		}
	}
	for op := range api.ExprMake + 2 {
		ns := []int64{0, 1, 2}
		if op == api.ExprBin || op == api.ExprUn {
			ns = []int64{-1, 0, 1, 2, 3, 4, 5, 6, 7, 8, 9, 10, 11, 12, 13, 15, 16, 17}
		}
		for _, n := range ns {
			for _, k := range append(few, 11) {
				ask(term(op, k, n))
				for a := range locals {
					ask(term(op, k, n, loc(int64(a))))
					for b := range locals {
						ask(term(op, k, n, loc(int64(a)), loc(int64(b))))
						if op == api.ExprSlice || op == api.ExprStruct {
							ask(term(op, k, n, loc(int64(a)), loc(int64(b)), loc(int64(b))))
							ask(term(op, k, n, loc(int64(a)), loc(0), loc(int64(b))))
						}
					}
				}
			}
		}
	}
	if right < 100 {
		t.Errorf("%d are right", right)
	}
}

// TestNothingShared: R1, R2: programs are not changed; what was told is new, its spare room too; the same call tells the same.
func TestNothingShared(t *testing.T) {
	s := turns(12)
	for range 100 {
		p := s.program()
		q := s.spoil(p)
		kept, keptToo := copied(p), copied(q)
		b, _ := Data(p)
		first := string(b)
		b = append(b, "spoiled"...)
		for i := range b[:cap(b)] {
			b[:cap(b)][i] = 'x'
		}
		e := Check(q)
		if again, _ := Data(p); string(again) != first || Check(q) != e {
			t.Fatalf("%q, and before %q; %d, and before %d", again, first, Check(q), e)
		}
		TypeOf(q, 0, num(1))
		if !reflect.DeepEqual(copied(p), kept) || !reflect.DeepEqual(copied(q), keptToo) {
			t.Fatalf("a program was changed")
		}
	}
}

// TestEmpty: R2: a nil list and an empty one are one.
func TestEmpty(t *testing.T) {
	x := api.Expr{Op: api.ExprConst, Args: []api.Expr{}}
	p := api.Program{Types: []api.Type{{Kind: api.KindI64, Fields: []int{}}, {Kind: api.TypeStruct, Fields: []int{}}}, Funcs: []api.Func{
		{Locals: []int{}, Results: []int{0}, Body: body(
			api.Stmt{Op: api.StmtCall, N: 1, Args: []api.Expr{}, Dst: []int{}, A: []api.Stmt{}, B: []api.Stmt{}},
			api.Stmt{Op: api.StmtReturn, Args: []api.Expr{x}, Dst: []int{}, A: []api.Stmt{}, B: []api.Stmt{}})},
		{Results: []int{}, Body: body(loop())},
	}}
	answers(t, "empty lists", p, api.OK)
	if told, e := TypeOf(p, 1, api.Expr{Op: api.ExprStruct, T: 1, Args: []api.Expr{}}); told != 1 || e != api.OK {
		t.Errorf("%d, %d", told, e)
	}
	p.Funcs[1].Body = []api.Stmt{}
	answers(t, "an empty body", p, api.ErrCheckReturn)
}
