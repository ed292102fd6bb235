package check

import (
	"gantry/api"
	"gantry/raw"
	"gantry/types"
)

// claim is what must be, or its error.
type claim struct {
	holds func() bool
	e     api.Errno
}

// firstOf tells the first error of claims; none is asked behind one that does not hold.
func firstOf(l ...claim) api.Errno {
	for _, c := range l {
		if !c.holds() {
			return c.e
		}
	}
	return api.OK
}

// fact is a claim that may be asked at once.
func fact(holds bool, e api.Errno) claim { return claim{func() bool { return holds }, e} }

// model asks of a program what the chapter's words say, and hands errors back one by one.
type model struct {
	p api.Program
	f api.Func
}

func (m model) entry(i int) bool { return i >= 0 && i < len(m.p.Types) }

// value goes through a type word by word; false, if an array is in it.
func (m model) value(i int) bool {
	var count func(i int) (int, bool)
	count = func(i int) (int, bool) {
		switch x := m.p.Types[i]; x.Kind {
		case api.TypeArray:
			return 0, false
		case api.TypeSlice, api.TypeString:
			return 2, true
		case api.TypeStruct:
			n, may := 0, true
			for _, f := range x.Fields {
				k, is := count(f)
				n, may = n+k, may && is
			}
			return n, may
		}
		return 1, true
	}
	n, may := count(i)
	return may && n <= api.MaxWords
}

func (m model) kind(i int) int { return m.p.Types[i].Kind }

func (m model) isInt(i int) bool {
	switch m.kind(i) {
	case api.KindI8, api.KindI16, api.KindI32, api.KindI64, api.KindU8, api.KindU16, api.KindU32, api.KindU64:
		return true
	}
	return false
}

func (m model) plain(i int) bool {
	k := m.kind(i)
	return k == api.KindBool || k == api.KindF64 || m.isInt(i)
}

func (m model) ptr(i int, to func(int) bool) bool {
	return m.kind(i) == api.KindPtr && to(m.p.Types[i].Elem)
}

func (m model) list(i int) bool {
	return m.kind(i) == api.TypeSlice || m.kind(i) == api.TypeString
}

// has is the chapter's list of operations (1): the letters of those that a kind has, in the order of their numbers.
func has(k int, unary bool, op int64) bool {
	all, ops := "nNc", map[int]string{api.KindBool: "N", api.KindF64: "n", api.KindPtr: ""}
	whole := "nc"
	if !unary {
		all, whole = "+-*/%&|^lr=!<{>}", "+-*/%&|^lr=!<{>}"
		ops = map[int]string{api.KindBool: "&|^=!", api.KindF64: "+-*/=!<{>}", api.KindPtr: "=!"}
	}
	letters, is := ops[k]
	if !is && k >= api.KindI8 && k <= api.KindU64 {
		letters = whole
	}
	for _, c := range letters {
		if c == rune(all[op-1]) {
			return true
		}
	}
	return false
}

// fits: N as a number of a kind.
func fits(k int, n int64) bool {
	switch k {
	case api.KindBool:
		return n == 0 || n == 1
	case api.KindI8:
		return n == int64(int8(n))
	case api.KindI16:
		return n == int64(int16(n))
	case api.KindI32:
		return n == int64(int32(n))
	case api.KindU8:
		return n == int64(uint8(n))
	case api.KindU16:
		return n == int64(uint16(n))
	case api.KindU32:
		return n == int64(uint32(n))
	}
	return true
}

// shape is what a term may have: T, N, S, and how many Args ('*': any).
func shape(x api.Expr) (string, bool) {
	shapes := []string{"", "TN0", "TS0", "T0", "N0", "N1", "N2", "2", "2", "T1", "N1", "T*", "1", "TN1", "T2", "T2", "T1", "3", "T0", "T1"}
	if x.Op < 1 || x.Op >= len(shapes) {
		return "", false
	}
	if x.Op == api.ExprUn && (x.N < 1 || x.N > 3) || x.Op == api.ExprBin && (x.N < 1 || x.N > 16) {
		return "", false
	}
	if x.Op == api.ExprBin && x.N >= api.BinEq {
		return "TN2", true
	}
	return shapes[x.Op], true
}

func names(shape string, c byte) bool {
	for i := range len(shape) {
		if shape[i] == c {
			return true
		}
	}
	return false
}

func (m model) term(x api.Expr) (int, api.Errno) {
	row, is := shape(x)
	e := firstOf(
		fact(is && (x.T == 0 || names(row, 'T')) && (x.N == 0 || names(row, 'N')) && (x.S == "" || names(row, 'S')), api.ErrCheckOp),
		claim{func() bool { n := row[len(row)-1]; return n == '*' || int(n-'0') == len(x.Args) }, api.ErrCheckCount},
		claim{func() bool { return !names(row, 'T') || m.entry(x.T) }, api.ErrCheckType},
	)
	if e != api.OK {
		return 0, e
	}
	a, e := m.terms(x.Args)
	if e != api.OK {
		return 0, e
	}
	if e := firstOf(m.row(x, a)...); e != api.OK {
		return 0, e
	}
	switch {
	case names(row, 'T'):
		return x.T, api.OK
	case x.Op == api.ExprLocal:
		return m.f.Locals[x.N], api.OK
	case x.Op == api.ExprField:
		return m.p.Types[a[0]].Fields[x.N], api.OK
	case x.Op == api.ExprLoad:
		return m.p.Types[a[0]].Elem, api.OK
	}
	return a[0], api.OK
}

func (m model) terms(l []api.Expr) (a []int, e api.Errno) {
	for _, x := range l {
		t, e := m.term(x)
		if e != api.OK {
			return nil, e
		}
		a = append(a, t)
	}
	return a, api.OK
}

func (m model) fieldOf(i int, n int64) []claim {
	return []claim{
		fact(m.kind(i) == api.TypeStruct, api.ErrCheckType),
		fact(n >= 0 && int(n) < len(m.p.Types[i].Fields), api.ErrCheckField),
	}
}

// row tells what must be of the row alone; a are the Args' types.
func (m model) row(x api.Expr, a []int) []claim {
	of := func(holds bool) []claim { return []claim{fact(holds, api.ErrCheckType)} }
	is := func(to int) func(int) bool { return func(i int) bool { return i == to } }
	switch x.Op {
	case api.ExprConst:
		return append(of(m.plain(x.T)), fact(fits(m.kind(x.T), x.N), api.ErrCheckConst))
	case api.ExprStr:
		return of(m.kind(x.T) == api.TypeString)
	case api.ExprNil:
		return of(m.kind(x.T) == api.KindPtr || m.kind(x.T) == api.TypeSlice)
	case api.ExprLocal:
		return []claim{fact(x.N >= 0 && x.N < int64(len(m.f.Locals)), api.ErrCheckLocal)}
	case api.ExprUn:
		return []claim{fact(has(m.kind(a[0]), true, x.N), api.ErrCheckOp)}
	case api.ExprBin:
		if x.N == api.BinShl || x.N == api.BinShr {
			return of(m.isInt(a[0]) && m.isInt(a[1]))
		}
		return append(of(a[0] == a[1] && (x.N < api.BinEq || m.kind(x.T) == api.KindBool)), fact(has(m.kind(a[0]), false, x.N), api.ErrCheckOp))
	case api.ExprAnd, api.ExprOr:
		return of(m.kind(a[0]) == api.KindBool && a[0] == a[1])
	case api.ExprConv:
		return of(m.plain(a[0]) && m.plain(x.T) && m.kind(a[0]) != api.KindBool && m.kind(x.T) != api.KindBool)
	case api.ExprField:
		return m.fieldOf(a[0], x.N)
	case api.ExprStruct:
		fields := m.p.Types[x.T].Fields
		l := append(of(m.kind(x.T) == api.TypeStruct && m.value(x.T)), fact(len(fields) == len(a), api.ErrCheckCount))
		for i := range min(len(a), len(fields)) {
			l = append(l, of(fields[i] == a[i])...)
		}
		return l
	case api.ExprLoad:
		return of(m.ptr(a[0], m.value))
	case api.ExprAddr:
		to := m.p.Types[a[0]].Elem
		l := append(of(m.kind(a[0]) == api.KindPtr), m.fieldOf(to, x.N)...)
		return append(l, claim{func() bool { return m.ptr(x.T, is(m.p.Types[to].Fields[x.N])) }, api.ErrCheckType})
	case api.ExprElem:
		of1 := m.p.Types[a[0]].Elem
		if m.kind(a[0]) == api.KindPtr && m.kind(of1) == api.TypeArray {
			return of(m.isInt(a[1]) && m.ptr(x.T, is(m.p.Types[of1].Elem)))
		}
		return of(m.kind(a[0]) == api.TypeSlice && m.isInt(a[1]) && m.ptr(x.T, is(of1)))
	case api.ExprIndex:
		return of(m.kind(a[0]) == api.TypeString && m.isInt(a[1]) && m.kind(x.T) == api.KindU8)
	case api.ExprLen:
		return of(m.list(a[0]) && m.kind(x.T) == api.KindI64)
	case api.ExprSlice:
		return of(m.list(a[0]) && m.isInt(a[1]) && m.isInt(a[2]))
	case api.ExprNew:
		return of(m.kind(x.T) == api.KindPtr)
	}
	return of(m.kind(x.T) == api.TypeSlice && m.isInt(a[0]))
}

func (m model) statements(l []api.Stmt, loops int) api.Errno {
	for _, x := range l {
		if e := m.statement(x, loops); e != api.OK {
			return e
		}
	}
	return api.OK
}

func (m model) statement(x api.Stmt, loops int) api.Errno {
	rows := []string{"", "N1", "2", "AB1", "A0", "N0", "N0", "*", "1", "N0", "ND*"}
	if x.Op < 1 || x.Op >= len(rows) {
		return api.ErrCheckOp
	}
	row := rows[x.Op]
	if x.N != 0 && !names(row, 'N') || len(x.Dst) > 0 && !names(row, 'D') || len(x.A) > 0 && !names(row, 'A') || len(x.B) > 0 && !names(row, 'B') {
		return api.ErrCheckOp
	}
	if n := row[len(row)-1]; n != '*' && int(n-'0') != len(x.Args) {
		return api.ErrCheckCount
	}
	a, e := m.terms(x.Args)
	if e != api.OK {
		return e
	}
	if e := firstOf(m.does(x, a, loops)...); e != api.OK {
		return e
	}
	inner := loops
	if x.Op == api.StmtLoop {
		inner++
	}
	if e := m.statements(x.A, inner); e != api.OK {
		return e
	}
	return m.statements(x.B, inner)
}

// does tells what must be of a statement's row alone.
func (m model) does(x api.Stmt, a []int, loops int) []claim {
	locals := m.f.Locals
	switch x.Op {
	case api.StmtSet:
		return []claim{fact(x.N >= 0 && x.N < int64(len(locals)), api.ErrCheckLocal), {func() bool { return locals[x.N] == a[0] }, api.ErrCheckType}}
	case api.StmtStore:
		return []claim{fact(m.ptr(a[0], func(i int) bool { return i == a[1] }), api.ErrCheckType)}
	case api.StmtIf:
		return []claim{fact(m.kind(a[0]) == api.KindBool, api.ErrCheckType)}
	case api.StmtBreak, api.StmtContinue:
		return []claim{fact(x.N >= 0 && x.N < int64(loops), api.ErrCheckLoop)}
	case api.StmtReturn:
		return append([]claim{fact(len(a) == len(m.f.Results), api.ErrCheckCount)}, pairwise(a, m.f.Results)...)
	case api.StmtEmit:
		return []claim{fact(m.plain(a[0]), api.ErrCheckType)}
	case api.StmtPanic:
		return []claim{fact(x.N >= 0 && x.N < 256, api.ErrCheckConst)}
	case api.StmtCall:
		if x.N < 0 || x.N >= int64(len(m.p.Funcs)) {
			return []claim{fact(false, api.ErrCheckFunc)}
		}
		g := m.p.Funcs[x.N]
		l := []claim{fact(len(a) == g.Params, api.ErrCheckCount), fact(len(x.Dst) == len(g.Results), api.ErrCheckCount)}
		l = append(l, pairwise(a, g.Locals[:g.Params])...)
		seen := map[int]int{}
		var to []int
		for _, n := range x.Dst {
			seen[n]++
			l = append(l, fact(n >= 0 && n < len(locals) && seen[n] == 1, api.ErrCheckLocal))
			if n >= 0 && n < len(locals) {
				to = append(to, locals[n])
			}
		}
		return append(l, pairwise(to, g.Results)...)
	}
	return nil
}

func pairwise(a, b []int) (l []claim) {
	for i := range min(len(a), len(b)) {
		l = append(l, fact(a[i] == b[i], api.ErrCheckType))
	}
	return l
}

// goesOn tells whether what stands behind a list may be come to, by steps: which of the loops around are left, and whether its end is come to.
func goesOn(l []api.Stmt) (on bool, left map[int64]bool) {
	on, left = true, map[int64]bool{}
	for _, x := range l {
		a, inA := goesOn(x.A)
		b, inB := goesOn(x.B)
		switch x.Op {
		case api.StmtReturn, api.StmtPanic, api.StmtContinue:
			on = false
		case api.StmtBreak:
			on, left[x.N] = false, true
		case api.StmtIf:
			on = on && (a || b)
		case api.StmtLoop:
			on = on && inA[0]
		}
		for n := range inA {
			if x.Op != api.StmtLoop {
				left[n] = true
			} else if n > 0 {
				left[n-1] = true
			}
		}
		for n := range inB {
			left[n] = true
		}
	}
	return on, left
}

func (m model) head(f api.Func, first bool) api.Errno {
	l := []claim{fact(len(f.Locals) <= 32 && f.Params >= 0 && f.Params <= len(f.Locals) && f.Params <= 8, api.ErrCheckLocal)}
	for _, i := range f.Locals {
		l = append(l, fact(m.entry(i), api.ErrCheckLocal))
	}
	for _, i := range f.Locals {
		l = append(l, claim{func() bool { return m.value(i) }, api.ErrCheckType})
	}
	l = append(l, fact(len(f.Results) <= 8, api.ErrCheckCount))
	for _, i := range f.Results {
		l = append(l, claim{func() bool { return m.entry(i) && m.value(i) }, api.ErrCheckType})
	}
	if first {
		l = append(l, claim{func() bool { return len(f.Results) == 1 && m.kind(f.Results[0]) == api.KindI64 && f.Params <= 6 }, api.ErrCheckFunc})
		for n := range min(f.Params, len(f.Locals)) {
			l = append(l, claim{func() bool { return m.plain(f.Locals[n]) }, api.ErrCheckFunc})
		}
	}
	return firstOf(l...)
}

// checks tells a program's first error.
func checks(p api.Program) api.Errno {
	if _, e := raw.Encode(p); e != api.OK {
		return e
	}
	if types.Check(p.Types) != api.OK {
		return api.ErrCheckTypes
	}
	if len(p.Funcs) < 1 || len(p.Funcs) > 32 {
		return api.ErrCheckFunc
	}
	for i, f := range p.Funcs {
		if e := (model{p, f}).head(f, i == 0); e != api.OK {
			return e
		}
	}
	for _, f := range p.Funcs {
		if e := (model{p, f}).statements(f.Body, 0); e != api.OK {
			return e
		}
		if on, _ := goesOn(f.Body); on {
			return api.ErrCheckReturn
		}
	}
	return api.OK
}
