package fold_test

import (
	"fmt"
	"testing"

	"gantry/api"
	. "gantry/hand"
)

// TestFloats: P17.1: OpBins of KindF64 with an OpConst in one place, or of one value twice, hang on the other one, which may be -0, a NaN, an infinity: their words are those that they were.
func TestFloats(t *testing.T) {
	t.Parallel()
	for _, op := range BinOps(F64) {
		m := start(F64)
		m.Emit(m.Bin(op, F64, first, first))
		for _, c := range Edges(F64) {
			m.Emit(m.Bin(op, F64, first, m.Con(F64, c)))
			m.Emit(m.Bin(op, F64, m.Con(F64, c), first))
		}
		hold(t, fmt.Sprint("op ", op), Unit(m.Done()), all(F64)...)
	}
}

// TestFloatsStay: P17.1: those of them that may not be what is known of ints.
func TestFloatsStay(t *testing.T) {
	t.Parallel()
	for _, x := range []struct {
		op  int64
		c   float64
		neg bool
	}{{api.BinAdd, 0, false}, {api.BinAdd, 0, true}, {api.BinSub, 0, false}, {api.BinSub, 0, true}, {api.BinMul, 0, false}, {api.BinMul, 0, true}, {api.BinMul, 1, false}, {api.BinDiv, 1, false}} {
		c := Bits(x.c)
		if x.neg {
			c |= Minus0
		}
		m := start(F64)
		m.Emit(m.Bin(x.op, F64, first, m.Con(F64, c)))
		m.Emit(m.Bin(x.op, F64, m.Con(F64, c), first))
		stays(t, fmt.Sprint(x), Unit(m.Done()), all(F64)...)
	}
	m := start(F64)
	for _, op := range []int64{api.BinSub, api.BinDiv, api.BinEq, api.BinNe, api.BinLe, api.BinGe} {
		m.Emit(m.Bin(op, F64, first, first))
	}
	stays(t, "one value twice", Unit(m.Done()), all(F64)...)
}

// TestFloatsGo: P17.1: what goes of floats, too, to the bit: a sign that is turned twice, an OpConv to KindF64, an OpSel, OpConsts; a sum that no order may change.
func TestFloatsGo(t *testing.T) {
	t.Parallel()
	m := start(F64)
	m.Emit(m.Un(api.UnNeg, F64, m.Un(api.UnNeg, F64, first)))
	m.Emit(m.Conv(F64, first))
	m.Emit(m.Sel(F64, flag, first, first))
	m.Emit(m.Sel(F64, m.Bin(api.BinEq, F64, m.Con(F64, NaN), m.Con(F64, NaN)), first, second))
	m.Emit(m.Sel(F64, m.Bin(api.BinEq, F64, m.Con(F64, 0), m.Con(F64, Minus0)), first, second))
	m.Emit(m.Bin(api.BinAdd, F64, m.Con(F64, OtherNaN), m.Con(F64, Bits(1))))
	m.Emit(m.Un(api.UnNeg, F64, m.Con(F64, 0)))
	m.Emit(m.Un(api.UnNeg, F64, m.Con(F64, OtherNaN)))
	m.Emit(m.Bin(api.BinAdd, F64, m.Bin(api.BinAdd, F64, m.Con(F64, Bits(1e300)), m.Con(F64, Bits(-1e300))), m.Con(F64, Bits(1))))
	c := goes(t, "floats", Unit(m.Done()), all(F64)...).Codes[0]
	for _, v := range c.Values {
		if v.Op == api.OpBin || v.Op == api.OpConv || v.Op == api.OpSel {
			t.Errorf("%+v", v)
		}
	}
}
