package fold_test

import (
	"encoding/binary"
	"fmt"
	"math"
	"testing"

	"gantry/api"
	"gantry/eval"
	. "gantry/hand"
	"gantry/sample"
	"gantry/word"
)

// TestAlone: P17.1, P17.2: each form in each kind, alone.
func TestAlone(t *testing.T) {
	t.Parallel()
	turns := sample.Turns(17)
	for _, kind := range Words() {
		for _, f := range formsOf(kind) {
			m := start(kind)
			tell(m, f.make(m, first, second))
			goes(t, fmt.Sprint("kind ", kind, ": ", f.name), Unit(m.Done()), some(&turns, kind, 4)...)
		}
	}
}

// TestRows: P17.1, P17.2: all forms of a kind in one block, told one behind the other, with all words at the edges.
func TestRows(t *testing.T) {
	t.Parallel()
	for _, kind := range Words() {
		m := start(kind)
		for range 3 {
			for _, f := range formsOf(kind) {
				tell(m, f.make(m, first, second))
				tell(m, f.make(m, second, first))
			}
		}
		goes(t, fmt.Sprint("kind ", kind), Unit(m.Done()), all(kind)...)
	}
}

// constsOf are words for an OpConst of the kind: edges, and some on either side of them.
func constsOf(kind int) []uint64 {
	l := Edges(kind)
	if IsInt(kind) {
		for _, x := range []uint64{3, 4, 8, 63, 64, 1 << 32, 1 << 63, math.MaxUint64} {
			l = append(l, word.Canon(kind, x))
		}
	}
	return l
}

// laid tells words as bytes, 8 each.
func laid(words []uint64) (told []byte) {
	for _, x := range words {
		told = binary.LittleEndian.AppendUint64(told, x)
	}
	return told
}

// each lays one operation: of each edge of the kind, which nobody knows ahead of the run, and many OpConsts, in either place; and of one value twice. No division by 0 is among them.
func each(kind int, op int64) api.Unit {
	m := Begin()
	words := [2][]uint64{Edges(kind), Edges(ByKind(op, kind))}
	var args [2][]int
	for i, k := range []int{kind, ByKind(op, kind)} {
		for j := range words[i] {
			args[i] = append(args[i], m.Load(k, m.Data(int64(8*(len(words[0])*i+j))), 0))
		}
	}
	may := func(second uint64) bool {
		return !IsInt(kind) || op != api.BinDiv && op != api.BinRem || second != 0
	}
	for _, c := range constsOf(ByKind(op, kind)) {
		for _, x := range args[0] {
			if may(c) {
				m.Emit(m.Bin(op, kind, x, m.Con(ByKind(op, kind), c)))
			}
		}
	}
	for _, c := range constsOf(kind) {
		for i, x := range args[1] {
			if may(words[1][i]) {
				m.Emit(m.Bin(op, kind, m.Con(kind, c), x))
			}
		}
	}
	for i, x := range args[0] {
		if ByKind(op, kind) == kind && may(words[0][i]) {
			m.Emit(m.Bin(op, kind, x, x))
		}
	}
	return WithData(append(laid(words[0]), laid(words[1])...), m.Done())
}

// TestEach: P17.1: each OpBin of each kind with OpConsts tells what it told, be it a form of the list or none.
func TestEach(t *testing.T) {
	t.Parallel()
	for _, kind := range Words() {
		for _, op := range BinOps(kind) {
			u := each(kind, op)
			hold(t, fmt.Sprint("kind ", kind, ", ", op), u, nil)
			if r, _ := eval.Run(u, nil, api.MaxFuel); r.End != api.EndExit || len(r.Trace) < 10 {
				t.Errorf("kind %d, %d: %+v", kind, op, r)
			}
		}
	}
}

// TestConstants: P17.1: OpUns, OpBins, OpConvs of all words at the edges of each kind: only divisions by 0 are left.
func TestConstants(t *testing.T) {
	t.Parallel()
	for _, kind := range Words() {
		m := Begin()
		want := constants(m, kind)
		made := goes(t, fmt.Sprint("kind ", kind), Unit(m.Done()), nil)
		c := made.Codes[0]
		at := 0
		for _, n := range c.Blocks[0].List {
			if v := c.Values[n]; v.Op == api.OpEmit {
				if x := c.Values[v.Args[0]]; x.Op != api.OpConst || uint64(x.N) != want[at] {
					t.Errorf("kind %d, %d: %+v, not %d", kind, at, x, want[at])
				}
				at++
			}
		}
		if at != len(want) {
			t.Errorf("kind %d: %d are told of %d", kind, at, len(want))
		}
	}
}

// constants lays operations of words of a kind, and tells what they tell.
func constants(m *Maker, kind int) (want []uint64) {
	told := func(n int, x uint64, e api.Errno) {
		if e == api.OK {
			m.Emit(n)
			want = append(want, x)
		}
	}
	for _, x := range Edges(kind) {
		a := m.Con(kind, x)
		for _, op := range UnOps(kind) {
			z, e := word.Un(int(op), kind, x)
			told(m.Un(op, kind, a), z, e)
		}
		for _, to := range numbers() {
			if isNumber(kind) {
				z, e := word.Conv(kind, to, x)
				told(m.Conv(to, a), z, e)
			}
		}
		for _, op := range BinOps(kind) {
			for _, y := range Edges(ByKind(op, kind)) {
				if z, e := word.Bin(int(op), kind, x, y); e == api.OK {
					told(m.Bin(op, kind, a, m.Con(ByKind(op, kind), y)), z, e)
				}
			}
		}
	}
	return want
}

// TestShifts: P17.1: shifts by as many places as there are bits, by one less, by more, of OpConsts and by OpConsts.
func TestShifts(t *testing.T) {
	t.Parallel()
	for _, kind := range Ints() {
		m, other := start(kind), start(kind)
		for _, op := range []int64{api.BinShl, api.BinShr} {
			for _, far := range []int{0, 1, word.Width(kind) - 1, word.Width(kind), word.Width(kind) + 1, 64, 65, 1 << 30, -1} {
				by := m.Con(U64, uint64(far))
				for _, x := range Edges(kind) {
					m.Emit(m.Bin(op, kind, m.Con(kind, x), by))
				}
				m.Emit(m.Bin(op, kind, first, by))
				if far != 0 {
					other.Emit(other.Bin(op, kind, first, other.Con(U64, uint64(far))))
				}
			}
		}
		goes(t, "shifts", Unit(m.Done()), all(kind)...)
		stays(t, "shifts of what is not known", Unit(other.Done()), all(kind)...)
	}
}

// TestLeast: P17.1: the least number of each signed kind, divided by -1, of OpConsts; and by -1 what is not known.
func TestLeast(t *testing.T) {
	t.Parallel()
	for _, kind := range []int{I8, I16, I32, I64} {
		m := start(kind)
		least, minus := m.Con(kind, Least(kind)), m.Con(kind, Ones(kind))
		m.Emit(m.Bin(api.BinDiv, kind, least, minus))
		m.Emit(m.Bin(api.BinRem, kind, least, minus))
		m.Emit(m.Bin(api.BinMul, kind, least, minus))
		made := goes(t, "least", Unit(m.Done()), all(kind)...)
		if left := values(made.Codes[0]); left != 6+3 {
			t.Errorf("kind %d: %d values", kind, left)
		}
		m = start(kind)
		m.Emit(m.Bin(api.BinDiv, kind, first, m.Con(kind, Ones(kind))))
		m.Emit(m.Bin(api.BinMul, kind, first, m.Con(kind, Ones(kind))))
		m.Emit(m.Bin(api.BinRem, kind, first, m.Con(kind, Ones(kind))))
		stays(t, "by -1", Unit(m.Done()), all(kind)...)
	}
}

// TestOther: P17.1: what is like a form of the list, but is none, stays as it is.
func TestOther(t *testing.T) {
	t.Parallel()
	for _, kind := range Ints() {
		m := start(kind)
		add := func(op int64, x, y int) { m.Emit(m.Bin(op, kind, x, y)) }
		con := func(x uint64) int { return m.Con(kind, x) }
		for _, c := range []uint64{2, 3, Greatest(kind) - 1} {
			for _, op := range []int64{api.BinAdd, api.BinSub, api.BinMul, api.BinDiv, api.BinRem, api.BinAnd, api.BinOr, api.BinXor, api.BinLt, api.BinEq} {
				add(op, first, con(c))
			}
		}
		for _, c := range []uint64{0, 1, 2, Ones(kind)} {
			add(api.BinSub, con(c), first)
			add(api.BinShl, con(c), index)
			add(api.BinShr, con(c), index)
			add(api.BinLe, con(c), first)
			add(api.BinNe, first, con(c))
		}
		add(api.BinAdd, first, con(1))
		add(api.BinSub, first, con(1))
		add(api.BinSub, first, con(Ones(kind)))
		add(api.BinXor, first, con(Ones(kind)))
		add(api.BinAdd, first, first)
		add(api.BinMul, first, first)
		add(api.BinAdd, first, second)
		m.Emit(m.Un(api.UnNeg, kind, m.Un(api.UnCom, kind, first)))
		m.Emit(m.Sel(kind, flag, first, second))
		stays(t, fmt.Sprint("kind ", kind), Unit(m.Done()), all(kind)...)
	}
}

// TestExamples: the chapter's own.
func TestExamples(t *testing.T) {
	m := Begin(I64)
	m.Ret(m.Bin(api.BinMul, I64, m.Bin(api.BinAdd, I64, 1, m.Num(0)), m.Num(1)))
	c := goes(t, "(x + 0) * 1", Unit(m), []uint64{5}, []uint64{Minus(7)}).Codes[0]
	if x := result(c); x.Op != api.OpArg || values(c) != 2 {
		t.Errorf("(x + 0) * 1: %+v", c)
	}
	m = Begin()
	m.Emit(m.Bin(api.BinSub, U8, m.Con(U8, 3), m.Con(U8, 5)))
	c = goes(t, "3 - 5", Unit(m.Done()), nil).Codes[0]
	for _, v := range c.Values {
		if v.Op == api.OpEmit && (c.Values[v.Args[0]].Op != api.OpConst || c.Values[v.Args[0]].N != 254) {
			t.Errorf("3 - 5: %+v", c)
		}
	}
	m = start(F64)
	m.Emit(m.Bin(api.BinSub, F64, first, first))
	m.Emit(m.Bin(api.BinAdd, F64, m.Con(F64, 0), first))
	stays(t, "x - x, +0 + x", Unit(m.Done()), all(F64)...)
	m = Begin()
	m.Emit(m.Num(1))
	m.Bin(api.BinDiv, I64, m.Num(1), m.Num(0))
	stays(t, "1 / 0", Unit(m.Done()), nil)
}
