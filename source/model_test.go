package source_test

import (
	"math"
	"math/big"
	"slices"

	"gantry/api"
	. "gantry/draft"
)

// model runs a program that checks by the chapter's words, in another way: a value has its type with it, bytes stand in a map, numbers are as large as they like, and what ends a run is handed back.
type model struct {
	p     api.Program
	texts map[*api.Expr]uint64
	bytes map[uint64]byte
	heap  uint64
	fuel  int
	away  int
	run   api.Run
	terms [api.ExprMake + 1]int // how often each kind of a term was worked out
	stmts [api.StmtCall + 1]int
}

// worth is a value.
type worth struct {
	t int
	w []uint64
}

// after is how it goes on behind a statement; "" with the next one.
type after struct {
	how  string
	n    int64
	told []worth
}

func newModel(p api.Program, fuel int) *model {
	m := &model{p: Copied(p), texts: map[*api.Expr]uint64{}, bytes: map[uint64]byte{}, fuel: fuel}
	at := uint64(api.DataBase)
	var terms func(l []api.Expr)
	terms = func(l []api.Expr) {
		for i := range l {
			m.texts[&l[i]] = at
			for n := range len(l[i].S) {
				m.bytes[at+uint64(n)] = l[i].S[n]
			}
			at += uint64(len(l[i].S))
			terms(l[i].Args)
		}
	}
	var statements func(l []api.Stmt)
	statements = func(l []api.Stmt) {
		for i := range l {
			terms(l[i].Args)
			statements(l[i].A)
			statements(l[i].B)
		}
	}
	for _, f := range m.p.Funcs {
		statements(f.Body)
	}
	m.heap = up(at, 8)
	return m
}

func up(n, to uint64) uint64 {
	for n%to != 0 {
		n++
	}
	return n
}

// all runs the function 0.
func (m *model) all(args []uint64) api.Run {
	var l []worth
	for i, x := range args {
		l = append(l, worth{m.p.Funcs[0].Locals[i], []uint64{x}})
	}
	if told, on := m.call(0, l); on {
		m.end(api.EndExit, int64(told[0].w[0]))
	}
	return m.run
}

func (m *model) end(end int, n int64) bool {
	m.run.End, m.run.N = end, n
	return false
}

func (m *model) panic(kind int64) (worth, bool) { return worth{}, m.end(api.EndPanic, kind) }

func (m *model) step() bool {
	if m.fuel == 0 {
		return m.end(api.EndFuel, 0)
	}
	m.fuel--
	m.run.Steps++
	return true
}

// lie tells a type's bytes, and its alignment.
func (m *model) lie(t int) (size, align uint64) {
	switch x := m.p.Types[t]; x.Kind {
	case api.TypeSlice, api.TypeString:
		return 16, 8
	case api.TypeArray:
		size, align = m.lie(x.Elem)
		return uint64(x.N) * size, align
	case api.TypeStruct:
		align = 1
		for _, f := range x.Fields {
			s, a := m.lie(f)
			size, align = up(size, a)+s, max(align, a)
		}
		return up(size, align), align
	default:
		n := uint64(width(x.Kind)+7) / 8
		return n, n
	}
}

func (m *model) offset(t int, n int64) (at uint64) {
	for i, f := range m.p.Types[t].Fields {
		s, a := m.lie(f)
		at = up(at, a)
		if int64(i) == n {
			return at
		}
		at += s
	}
	return at
}

// piece is a word of a value: its kind, and where it begins.
type piece struct {
	kind int
	at   uint64
}

func (m *model) pieces(t int, at uint64) (l []piece) {
	switch x := m.p.Types[t]; x.Kind {
	case api.TypeSlice, api.TypeString:
		return []piece{{api.KindPtr, at}, {api.KindI64, at + 8}}
	case api.TypeStruct:
		for i, f := range x.Fields {
			l = append(l, m.pieces(f, at+m.offset(t, int64(i)))...)
		}
		return l
	default:
		return []piece{{x.Kind, at}}
	}
}

func (m *model) zero(t int) worth { return worth{t, make([]uint64, len(m.pieces(t, 0)))} }

func (m *model) block(n uint64) (uint64, bool) {
	at := m.heap
	if m.heap += up(max(n, 8), 8); m.heap > api.MaxMemory {
		return 0, m.end(api.EndResource, 0)
	}
	return at, true
}

func (m *model) load(t int, at uint64) worth {
	told := worth{t: t}
	for _, p := range m.pieces(t, at) {
		x := new(big.Int)
		for i := (width(p.kind) + 7) / 8; i > 0; i-- {
			x.Or(x.Lsh(x, 8), big.NewInt(int64(m.bytes[p.at+uint64(i)-1])))
		}
		told.w = append(told.w, wrap(p.kind, x))
	}
	return told
}

func (m *model) store(at uint64, x worth) {
	for i, p := range m.pieces(x.t, at) {
		for n := range (width(p.kind) + 7) / 8 {
			m.bytes[p.at+uint64(n)] = byte(x.w[i] >> (8 * n))
		}
	}
}

func (m *model) call(f int, args []worth) ([]worth, bool) {
	n := len(m.run.Calls)
	m.run.Calls = append(m.run.Calls, api.Call{Func: f, Args: flat(args)})
	m.away++
	if m.away > 1024 {
		return nil, m.end(api.EndResource, 0)
	}
	locals := slices.Clone(args)
	for _, t := range m.p.Funcs[f].Locals[len(args):] {
		locals = append(locals, m.zero(t))
	}
	a := m.list(m.p.Funcs[f].Body, locals)
	if a.how != "return" {
		return nil, false
	}
	m.away--
	m.run.Calls[n].Back, m.run.Calls[n].Results = true, flat(a.told)
	return a.told, true
}

func flat(l []worth) (w []uint64) {
	for _, x := range l {
		w = append(w, x.w...)
	}
	return w
}

func (m *model) list(l []api.Stmt, locals []worth) after {
	for i := range l {
		if a := m.statement(&l[i], locals); a.how != "" {
			return a
		}
	}
	return after{}
}

func (m *model) statement(x *api.Stmt, locals []worth) after {
	if !m.step() {
		return after{how: "end"}
	}
	m.stmts[x.Op]++
	args, on := m.args(x.Args, locals)
	if !on {
		return after{how: "end"}
	}
	switch x.Op {
	case api.StmtSet:
		locals[x.N] = args[0]
	case api.StmtStore:
		if args[0].w[0] == 0 {
			m.panic(api.PanicNil)
			return after{how: "end"}
		}
		m.store(args[0].w[0], args[1])
	case api.StmtIf:
		if args[0].w[0] != 0 {
			return m.list(x.A, locals)
		}
		return m.list(x.B, locals)
	case api.StmtLoop:
		return m.rounds(x.A, locals)
	case api.StmtBreak:
		return after{how: "break", n: x.N}
	case api.StmtContinue:
		return after{how: "continue", n: x.N}
	case api.StmtReturn:
		return after{how: "return", told: args}
	case api.StmtEmit:
		m.run.Trace = append(m.run.Trace, args[0].w[0])
	case api.StmtPanic:
		m.panic(api.PanicUser + x.N)
		return after{how: "end"}
	case api.StmtCall:
		told, on := m.call(int(x.N), args)
		if !on {
			return after{how: "end"}
		}
		for i, n := range x.Dst {
			locals[n] = told[i]
		}
	}
	return after{}
}

func (m *model) rounds(l []api.Stmt, locals []worth) after {
	for m.step() {
		a := m.list(l, locals)
		inner := a.how == "break" || a.how == "continue"
		if inner && a.n > 0 {
			return after{how: a.how, n: a.n - 1}
		}
		if a.how == "break" {
			return after{}
		}
		if a.how == "end" || a.how == "return" {
			return a
		}
	}
	return after{how: "end"}
}

func (m *model) args(l []api.Expr, locals []worth) (told []worth, on bool) {
	for i := range l {
		x, on := m.term(&l[i], locals)
		if !on {
			return nil, false
		}
		told = append(told, x)
	}
	return told, true
}

func (m *model) kind(x worth) int { return m.p.Types[x.t].Kind }

func (m *model) term(x *api.Expr, locals []worth) (worth, bool) {
	m.terms[x.Op]++
	if x.Op == api.ExprAnd || x.Op == api.ExprOr {
		first, on := m.term(&x.Args[0], locals)
		if !on || (first.w[0] == 1) == (x.Op == api.ExprOr) {
			return first, on
		}
		return m.term(&x.Args[1], locals)
	}
	a, on := m.args(x.Args, locals)
	if !on {
		return worth{}, false
	}
	switch x.Op {
	case api.ExprConst:
		return worth{x.T, []uint64{uint64(x.N)}}, true
	case api.ExprStr:
		return worth{x.T, []uint64{m.texts[x], uint64(len(x.S))}}, true
	case api.ExprNil:
		return m.zero(x.T), true
	case api.ExprLocal:
		return locals[x.N], true
	case api.ExprUn:
		return worth{a[0].t, []uint64{modelUn(x.N, m.kind(a[0]), a[0].w[0])}}, true
	case api.ExprBin:
		return m.binary(x, a)
	case api.ExprConv:
		return worth{x.T, []uint64{modelConv(m.kind(a[0]), m.p.Types[x.T].Kind, a[0].w[0])}}, true
	case api.ExprField:
		at, fields := 0, m.p.Types[a[0].t].Fields
		for _, f := range fields[:x.N] {
			at += len(m.pieces(f, 0))
		}
		return worth{fields[x.N], a[0].w[at : at+len(m.pieces(fields[x.N], 0))]}, true
	case api.ExprStruct:
		return worth{x.T, flat(a)}, true
	}
	return m.inMemory(x, a)
}

// inMemory works out the terms that have to do with pointers, slices and texts.
func (m *model) inMemory(x *api.Expr, a []worth) (worth, bool) {
	var of api.Type
	if len(a) > 0 {
		of = m.p.Types[a[0].t]
	}
	if of.Kind == api.KindPtr && a[0].w[0] == 0 {
		return m.panic(api.PanicNil)
	}
	one := func(w ...uint64) (worth, bool) { return worth{x.T, w}, true }
	switch x.Op {
	case api.ExprLoad:
		return m.load(of.Elem, a[0].w[0]), true
	case api.ExprAddr:
		return one(a[0].w[0] + m.offset(of.Elem, x.N))
	case api.ExprLen:
		return one(a[0].w[1])
	case api.ExprElem, api.ExprIndex:
		many := uint64(m.p.Types[of.Elem].N)
		if of.Kind != api.KindPtr {
			many = a[0].w[1]
		}
		i := m.number(a[1])
		if !within(i, big.NewInt(0), new(big.Int).SetUint64(many-1)) || many == 0 {
			return m.panic(api.PanicIndex)
		}
		if x.Op == api.ExprIndex {
			return one(uint64(m.bytes[a[0].w[0]+i.Uint64()]))
		}
		size, _ := m.lie(m.p.Types[x.T].Elem)
		return one(a[0].w[0] + i.Uint64()*size)
	case api.ExprSlice:
		lo, hi := m.number(a[1]), m.number(a[2])
		if !within(lo, big.NewInt(0), hi) || !within(hi, lo, big.NewInt(int64(a[0].w[1]))) {
			return m.panic(api.PanicSlice)
		}
		size := uint64(1)
		if of.Kind == api.TypeSlice {
			size, _ = m.lie(of.Elem)
		}
		return worth{a[0].t, []uint64{a[0].w[0] + lo.Uint64()*size, hi.Uint64() - lo.Uint64()}}, true
	case api.ExprNew:
		size, _ := m.lie(m.p.Types[x.T].Elem)
		at, on := m.block(size)
		return worth{x.T, []uint64{at}}, on
	}
	n, most := m.number(a[0]), big.NewInt(api.MaxMemory)
	size, _ := m.lie(m.p.Types[x.T].Elem)
	all := new(big.Int).Mul(n, new(big.Int).SetUint64(size))
	if !within(n, big.NewInt(0), most) || all.Cmp(most) > 0 {
		return m.panic(api.PanicMake)
	}
	at, on := m.block(all.Uint64())
	return worth{x.T, []uint64{at, n.Uint64()}}, on
}

func within(x, lo, hi *big.Int) bool { return x.Cmp(lo) >= 0 && x.Cmp(hi) <= 0 }

func (m *model) number(x worth) *big.Int { return number(m.kind(x), x.w[0]) }

func (m *model) binary(x *api.Expr, a []worth) (worth, bool) {
	t, k := a[0].t, m.kind(a[0])
	if x.N >= api.BinEq {
		t = x.T
	}
	one := func(w uint64) (worth, bool) { return worth{t, []uint64{w}}, true }
	if k == api.KindF64 {
		return one(modelFloat(x.N, math.Float64frombits(a[0].w[0]), math.Float64frombits(a[1].w[0])))
	}
	first, second := m.number(a[0]), m.number(a[1])
	switch x.N {
	case api.BinDiv, api.BinRem:
		if second.Sign() == 0 {
			return m.panic(api.PanicDiv)
		}
	case api.BinShl, api.BinShr:
		if second.Sign() < 0 {
			return m.panic(api.PanicShift)
		}
	}
	return one(modelWhole(x.N, k, first, second))
}

func width(k int) int {
	return []int{0, 1, 8, 16, 32, 64, 8, 16, 32, 64, 64, 64}[k]
}

// number is what a word stands for.
func number(k int, x uint64) *big.Int {
	if k >= api.KindI8 && k <= api.KindI64 {
		return big.NewInt(int64(x))
	}
	return new(big.Int).SetUint64(x)
}

// wrap is the word of k that has the lowest bits of a number.
func wrap(k int, n *big.Int) uint64 {
	span := new(big.Int).Lsh(big.NewInt(1), uint(width(k)))
	n = new(big.Int).Mod(n, span)
	if k >= api.KindI8 && k <= api.KindI64 && n.Bit(width(k)-1) == 1 {
		return uint64(n.Sub(n, span).Int64())
	}
	return n.Uint64()
}

func modelUn(op int64, k int, x uint64) uint64 {
	switch {
	case op == api.UnNot:
		return 1 - x
	case k == api.KindF64:
		return x ^ Minus0
	case op == api.UnNeg:
		return wrap(k, new(big.Int).Neg(number(k, x)))
	}
	return wrap(k, new(big.Int).Not(number(k, x)))
}

func modelWhole(op int64, k int, x, y *big.Int) uint64 {
	z := new(big.Int)
	far := uint(100)
	if y.IsUint64() {
		far = uint(min(y.Uint64(), 100))
	}
	switch op {
	case api.BinAdd:
		z.Add(x, y)
	case api.BinSub:
		z.Sub(x, y)
	case api.BinMul:
		z.Mul(x, y)
	case api.BinDiv:
		z.Quo(x, y)
	case api.BinRem:
		z.Rem(x, y)
	case api.BinAnd:
		z.And(x, y)
	case api.BinOr:
		z.Or(x, y)
	case api.BinXor:
		z.Xor(x, y)
	case api.BinShl:
		z.Lsh(x, far)
	case api.BinShr:
		z.Rsh(x, far)
	default:
		return held(op, x.Cmp(y))
	}
	return wrap(k, z)
}

// held tells a comparison by how both stand to each other: below 0, 0, above 0.
func held(op int64, c int) uint64 {
	if []bool{c == 0, c != 0, c < 0, c <= 0, c > 0, c >= 0}[op-api.BinEq] {
		return 1
	}
	return 0
}

func modelFloat(op int64, x, y float64) uint64 {
	var z float64
	switch op {
	case api.BinAdd:
		z = x + y
	case api.BinSub:
		z = x - y
	case api.BinMul:
		z = x * y
	case api.BinDiv:
		z = x / y
	default:
		if x != x || y != y {
			return map[bool]uint64{true: 1}[op == api.BinNe]
		}
		return held(op, map[bool]int{true: 1}[x > y]-map[bool]int{true: 1}[x < y])
	}
	if z != z {
		return Nan
	}
	return math.Float64bits(z)
}

func modelConv(from, to int, x uint64) uint64 {
	switch f := math.Float64frombits(x); {
	case from == api.KindF64 && to == api.KindF64:
		return x
	case from == api.KindF64 && !(f >= -(1<<63) && f < 1<<63):
		return wrap(to, new(big.Int).SetUint64(1<<63))
	case from == api.KindF64:
		n, _ := big.NewFloat(f).Int(nil)
		return wrap(to, n)
	case to == api.KindF64:
		near, _ := new(big.Float).SetInt(number(from, x)).Float64()
		return math.Float64bits(near)
	}
	return wrap(to, number(from, x))
}
