package ssa

import (
	"math"
	"slices"
	"testing"

	"gantry/api"
	"gantry/word"
)

// The values of a bench: that of the number k, from KindBool to KindMem, is of the kind k.
const (
	start = 0
	alloc = api.KindMem // an OpAlloc; its memory is not the last one
	call  = 13          // an OpCall of the Code 1: the memory that is there
	probe = 14          // the value that is looked at
)

// called is what a bench calls.
func called() api.Code {
	return handed(list(api.KindI64, api.KindBool, api.KindPtr), list(api.KindU8, api.KindPtr))
}

// bench tells a program with that value behind one of each kind, in that block.
func bench(v api.Value, block int) api.Unit {
	c := api.Code{Params: list(api.KindI64, api.KindF64), Values: []api.Value{value(api.OpInit, api.KindMem, 0)}}
	for k := api.KindBool; k <= api.KindPtr; k++ {
		c.Values = append(c.Values, value(api.OpConst, k, 0))
	}
	c.Values = append(c.Values, value(api.OpAlloc, api.KindMem, 0, api.KindU64, start), value(api.OpCall, api.KindMem, 1, api.KindI64, api.KindBool, api.KindPtr, alloc), v)
	c.Blocks = []api.Block{{Kind: api.BlockPlain, Succs: list(1)}, {Kind: api.BlockRet, Preds: list(0), Args: list(call)}}
	for n := range probe {
		c.Blocks[0].List = append(c.Blocks[0].List, n)
	}
	c.Blocks[block].List = append(c.Blocks[block].List, probe)
	if makesMemory(v) {
		c.Blocks[1].Args = list(probe)
	}
	return api.Unit{Codes: []api.Code{c, called()}, Data: []byte("seven..")}
}

func makesMemory(v api.Value) bool {
	switch v.Op {
	case api.OpStore, api.OpAlloc, api.OpEmit, api.OpCall:
		return true
	}
	return v.Op == api.OpPhi && v.Kind == api.KindMem
}

// held holds what is told of that value in both blocks.
func held(t *testing.T, v api.Value, want api.Errno) {
	t.Helper()
	for block := range 2 {
		if e := Check(bench(v, block)); e != want {
			t.Errorf("%+v in block %d: %d, not %d", v, block, e, want)
		}
	}
}

func words() (l []int) {
	for k := api.KindBool; k <= api.KindPtr; k++ {
		l = append(l, k)
	}
	return l
}

func isInt(k int) bool { return k >= api.KindI8 && k <= api.KindU64 }

func right(holds bool) api.Errno {
	if holds {
		return api.OK
	}
	return api.ErrSSAType
}

// line is a row of the table whose kinds stand for themselves: for each of Args those that it may have, and its own.
type line struct {
	v    api.Value
	args [][]int
	own  []int
}

func lines() []line {
	ptr, mem, u64 := list(api.KindPtr), list(api.KindMem), list(api.KindU64)
	told := words()[:api.KindF64]
	return []line{
		{value(api.OpLoad, api.KindI16, 8, api.KindPtr, call), [][]int{ptr, mem}, words()},
		{value(api.OpStore, api.KindMem, 8, api.KindPtr, api.KindI16, call), [][]int{ptr, words(), mem}, mem},
		{value(api.OpAlloc, api.KindMem, 0, api.KindU64, call), [][]int{u64, mem}, mem},
		{value(api.OpEmit, api.KindMem, 0, api.KindI16, call), [][]int{told, mem}, mem},
		{value(api.OpCall, api.KindMem, 1, api.KindI64, api.KindBool, api.KindPtr, call), [][]int{list(api.KindI64), list(api.KindBool), ptr, mem}, mem},
		{value(api.OpBlock, api.KindPtr, 0, alloc), nil, ptr},
		{value(api.OpResult, api.KindU8, 0, call), nil, list(api.KindU8)},
		{value(api.OpData, api.KindPtr, 3), nil, ptr},
		{value(api.OpAddr, api.KindPtr, 3, api.KindPtr), [][]int{ptr}, ptr},
		{api.Value{Op: api.OpAddr, Kind: api.KindPtr, N: 3, M: 5, Args: list(api.KindPtr, api.KindU64)}, [][]int{ptr, u64}, ptr},
	}
}

// with tells a value with another one of Args.
func with(v api.Value, i, arg int) api.Value {
	v.Args = slices.Clone(v.Args)
	v.Args[i] = arg
	return v
}

// TestLines: P12.1: each kind at each place of a row, just right and just wrong.
func TestLines(t *testing.T) {
	for _, l := range lines() {
		held(t, l.v, api.OK)
		for i, may := range l.args {
			for k := api.KindBool; k <= api.KindMem; k++ {
				arg := k
				if k == api.KindMem {
					arg = call
				}
				held(t, with(l.v, i, arg), right(slices.Contains(may, k)))
			}
		}
		for k := -1; k <= api.KindMem+1; k++ {
			v := l.v
			v.Kind = k
			held(t, v, right(slices.Contains(l.own, k)))
		}
	}
}

// TestOldMemory: P12.1: a memory that is not the one that is there is told behind all kinds.
func TestOldMemory(t *testing.T) {
	for _, l := range lines() {
		if last := len(l.args) - 1; last >= 0 && l.args[last][0] == api.KindMem {
			held(t, with(l.v, last, alloc), api.ErrSSAMem)
			held(t, with(l.v, last, start), api.ErrSSAMem)
		}
	}
}

// TestCounts: P12.1: of each row as many Args as it says, not one more, not one fewer, whatever they are.
func TestCounts(t *testing.T) {
	counts := [...][]int{
		api.OpConst: {0}, api.OpArg: {0}, api.OpUn: {1}, api.OpBin: {2}, api.OpConv: {1}, api.OpPhi: {1}, api.OpSel: {3}, api.OpLoad: {2}, api.OpInit: {0},
		api.OpStore: {3}, api.OpAlloc: {2}, api.OpBlock: {1}, api.OpEmit: {2}, api.OpCall: {4}, api.OpResult: {1}, api.OpData: {0}, api.OpAddr: {1, 2},
	}
	for op := api.OpConst; op <= api.OpAddr; op++ {
		for n := range 7 {
			for _, arg := range list(api.KindBool, api.KindPtr, alloc, call) {
				v := value(op, api.KindNone, 0, slices.Repeat(list(arg), n)...)
				if op == api.OpCall {
					v.N = 1
				}
				want := api.ErrSSAForm
				if slices.Contains(counts[op], n) {
					want = api.ErrSSAType // of KindNone is nothing
				}
				if e := Check(bench(v, 1)); e != want {
					t.Errorf("%+v: %d, not %d", v, e, want)
				}
			}
		}
	}
}

// TestUnnamed: P12.1: N and M are 0 where the table does not name them: ErrSSAForm; out of bounds where it does: ErrSSAType.
func TestUnnamed(t *testing.T) {
	names := list(api.OpConst, api.OpArg, api.OpUn, api.OpBin, api.OpLoad, api.OpStore, api.OpCall, api.OpResult, api.OpData, api.OpAddr)
	samples := []api.Value{
		value(api.OpConst, api.KindI8, 0), value(api.OpArg, api.KindI64, 0), value(api.OpUn, api.KindI8, api.UnNeg, api.KindI8), value(api.OpBin, api.KindI8, api.BinAdd, api.KindI8, api.KindI8),
		value(api.OpConv, api.KindI8, 0, api.KindI8), value(api.OpPhi, api.KindI8, 0, api.KindI8), value(api.OpSel, api.KindI8, 0, api.KindBool, api.KindI8, api.KindI8), value(api.OpInit, api.KindMem, 0),
	}
	for _, l := range lines() {
		samples = append(samples, l.v)
	}
	for _, v := range samples {
		for _, n := range []int64{math.MinInt64, -1, 1, math.MaxInt64} {
			large, wide := v, v
			large.N, wide.M = n, int(n)
			if e := Check(bench(large, 1)); (e == api.ErrSSAForm) == slices.Contains(names, v.Op) && v.Op != api.OpCall {
				t.Errorf("%+v: %d", large, e)
			}
			if e := Check(bench(wide, 1)); (e == api.ErrSSAForm) == (v.Op == api.OpAddr) {
				t.Errorf("%+v: %d", wide, e)
			}
		}
	}
}

// TestBounds: P12.1: N and M of loads, stores, addresses and data, at the ends of their bounds and beyond.
func TestBounds(t *testing.T) {
	size := [...]int64{0, api.MaxSize}
	for _, l := range lines() {
		var ends [2]int64
		switch l.v.Op {
		case api.OpLoad, api.OpStore, api.OpAddr:
			ends = size
		case api.OpData:
			ends = [...]int64{0, 7}
		default:
			continue
		}
		for _, n := range []int64{math.MinInt64, -1, 0, 1, 6, 7, 8, api.MaxSize - 1, api.MaxSize, api.MaxSize + 1, 1 << 32, math.MaxInt64} {
			v := l.v
			v.N = n
			held(t, v, right(n >= ends[0] && n <= ends[1]))
			if l.v.Op == api.OpAddr {
				v.N, v.M = 3, int(n)
				held(t, v, right(n == 0 || len(v.Args) == 2 && n > 0 && n <= api.MaxSize))
			}
		}
	}
	bare := bench(value(api.OpData, api.KindPtr, 0), 0)
	bare.Data = nil
	told(t, "no data", bare, api.OK)
	bare.Codes[0].Values[probe].N = 1
	told(t, "behind no data", bare, api.ErrSSAType)
}

// TestConst: P12.1: N is a word of the kind.
func TestConst(t *testing.T) {
	for k := -1; k <= api.KindMem+1; k++ {
		for _, n := range []int64{math.MinInt64, math.MinInt32 - 1, math.MinInt32, -32769, -32768, -129, -128, -1, 0, 1, 2, 127, 128, 255, 256, 32767, 32768, 65535, 65536, math.MaxInt32, math.MaxInt32 + 1, math.MaxUint32, math.MaxUint32 + 1, math.MaxInt64} {
			held(t, value(api.OpConst, k, n), right(word.Is(k, uint64(n))))
		}
	}
	held(t, value(api.OpConst, api.KindBool, 2), api.ErrSSAType)
	held(t, value(api.OpConst, api.KindI8, 128), api.ErrSSAType)
	held(t, value(api.OpConst, api.KindU64, -1), api.OK)
	held(t, value(api.OpConst, api.KindU32, -1), api.ErrSSAType)
}

// TestArg: P12.1: in block 0 alone; a number of Params, of that kind; the same one may be asked for again.
func TestArg(t *testing.T) {
	for _, n := range []int64{math.MinInt64, -1, 0, 1, 2, 3, 1 << 32, math.MaxInt64} {
		for k := -1; k <= api.KindMem+1; k++ {
			want := right(n == 0 && k == api.KindI64 || n == 1 && k == api.KindF64)
			told(t, "OpArg", bench(value(api.OpArg, k, n), 0), want)
			told(t, "OpArg in block 1", bench(value(api.OpArg, k, n), 1), api.ErrSSAType)
		}
	}
	u := bench(value(api.OpArg, api.KindI64, 0), 0)
	u.Codes[0].Values = append(u.Codes[0].Values, value(api.OpArg, api.KindI64, 0))
	u.Codes[0].Blocks[0].List = append(u.Codes[0].Blocks[0].List, probe+1)
	told(t, "twice", u, api.OK)
}

// TestInit: P12.1: one in each Code, in block 0, of KindMem.
func TestInit(t *testing.T) {
	for block := range 2 {
		told(t, "two", bench(value(api.OpInit, api.KindMem, 0), block), api.ErrSSAType)
	}
	none := ended(list(1), list(1))
	told(t, "none", unit(none), api.ErrSSAType)
	none.Values = []api.Value{value(api.OpInit, api.KindMem, 0)}
	none.Blocks[0].List = list(0)
	told(t, "one", unit(none), api.OK)
	none.Blocks[0].List, none.Blocks[1].List = nil, list(0)
	told(t, "one in block 1", unit(none), api.ErrSSAType)
	for k := -1; k <= api.KindMem+1; k++ {
		c := full(ended(list(1), list(1)))
		c.Values[0].Kind = k
		told(t, "its kind", unit(c), right(k == api.KindMem))
	}
}

// TestUn: P12.1: each operation of one word, of each kind, told as each kind.
func TestUn(t *testing.T) {
	for _, op := range []int64{math.MinInt64, -1, 0, 1, 2, 3, 4, 1<<32 + 1, math.MaxInt64} {
		for k := api.KindBool; k <= api.KindMem; k++ {
			for own := -1; own <= api.KindMem+1; own++ {
				has := op == api.UnNeg && (isInt(k) || k == api.KindF64) || op == api.UnNot && k == api.KindBool || op == api.UnCom && isInt(k)
				held(t, value(api.OpUn, own, op, k), right(has && own == k))
			}
		}
	}
}

// hasBin tells whether the kind k has the operation of two words.
func hasBin(op int64, k int) bool {
	switch {
	case op < api.BinAdd || op > api.BinGe:
		return false
	case isInt(k):
		return true
	case k == api.KindF64:
		return op <= api.BinDiv && op != api.BinRem || op >= api.BinEq
	case k == api.KindBool:
		return op >= api.BinAnd && op <= api.BinXor || op == api.BinEq || op == api.BinNe
	}
	return k == api.KindPtr && (op == api.BinEq || op == api.BinNe)
}

// TestBin: P12.1: each operation of two words, of each two kinds, told as each kind.
func TestBin(t *testing.T) {
	for _, op := range []int64{math.MinInt64, -1, 0, 1, 2, 3, 4, 5, 6, 7, 8, 9, 10, 11, 12, 13, 14, 15, 16, 17, 1<<32 + 1, math.MaxInt64} {
		for k := api.KindBool; k <= api.KindMem; k++ {
			for y := api.KindBool; y <= api.KindMem; y++ {
				for _, own := range list(0, api.KindBool, k, y, api.KindU64, api.KindMem) {
					second, told := k, k
					if op == api.BinShl || op == api.BinShr {
						second = api.KindU64
					}
					if op >= api.BinEq {
						told = api.KindBool
					}
					want := right(hasBin(op, k) && y == second && own == told)
					if e := Check(bench(value(api.OpBin, own, op, k, y), 1)); e != want {
						t.Errorf("%d of %d, %d as %d: %d, not %d", op, k, y, own, e, want)
					}
				}
			}
		}
	}
}

// TestConv: P12.1: from each kind to each.
func TestConv(t *testing.T) {
	for k := api.KindBool; k <= api.KindMem; k++ {
		for own := -1; own <= api.KindMem+1; own++ {
			from, to := isInt(k) || k == api.KindF64, isInt(own) || own == api.KindF64
			held(t, value(api.OpConv, own, 0, k), right(from && to))
		}
	}
}

// TestPhi: P12.1: words' kinds and KindMem, of all Args.
func TestPhi(t *testing.T) {
	for k := api.KindBool; k <= api.KindMem; k++ {
		for own := -1; own <= api.KindMem+1; own++ {
			arg := k
			if k == api.KindMem {
				arg = call
			}
			told(t, "OpPhi", bench(value(api.OpPhi, own, 0, arg), 1), right(own == k))
		}
	}
	changed(t, looped, []change{
		{"the first of Args", func(c *api.Code) { c.Values[4].Args[0] = 0 }, api.ErrSSAType},
		{"the last of Args", func(c *api.Code) { c.Values[4].Args[1] = 6 }, api.ErrSSAType},
		{"a memory's last of Args", func(c *api.Code) { c.Values[5].Args[1] = 7 }, api.ErrSSAType},
	})
}

// TestSel: P12.1: a bool, and two of one kind of words: that kind.
func TestSel(t *testing.T) {
	for c := api.KindBool; c <= api.KindMem; c++ {
		held(t, value(api.OpSel, api.KindI16, 0, c, api.KindI16, api.KindI16), right(c == api.KindBool))
	}
	for x := api.KindBool; x <= api.KindMem; x++ {
		for y := api.KindBool; y <= api.KindMem; y++ {
			for _, own := range list(-1, 0, api.KindBool, x, y, api.KindMem, api.KindMem+1) {
				held(t, value(api.OpSel, own, 0, api.KindBool, x, y), right(x == y && own == x && x != api.KindMem))
			}
		}
	}
}

// TestOf: P12.1: an OpBlock is of an OpAlloc, an OpResult of an OpCall; of other values, of other memory too, it is none.
func TestOf(t *testing.T) {
	for n := range probe {
		held(t, value(api.OpBlock, api.KindPtr, 0, n), right(n == alloc))
		held(t, value(api.OpResult, api.KindU8, 0, n), right(n == call))
	}
	for _, n := range []int64{math.MinInt64, -1, 0, 1, 2, 1 << 32, math.MaxInt64} {
		for k := -1; k <= api.KindMem+1; k++ {
			held(t, value(api.OpResult, k, n, call), right(n == 0 && k == api.KindU8 || n == 1 && k == api.KindPtr))
		}
	}
}

// TestEndKinds: P12.1: a BlockIf's KindBool; a BlockRet's Results and memory; a BlockPanic's memory.
func TestEndKinds(t *testing.T) {
	for k := api.KindBool; k <= api.KindMem; k++ {
		arg := k
		if k == api.KindMem {
			arg = call
		}
		choice, panics := bench(value(api.OpConst, api.KindI8, 0), 0), bench(value(api.OpConst, api.KindI8, 0), 0)
		b := choice.Codes[0].Blocks
		b[0].Kind, b[0].Succs, b[0].Args, b[1].Preds = api.BlockIf, list(1, 1), list(arg), list(0, 0)
		told(t, "BlockIf", choice, right(k == api.KindBool))
		p := &panics.Codes[0].Blocks[1]
		p.Kind, p.N, p.Args = api.BlockPanic, 1, list(arg)
		told(t, "BlockPanic", panics, right(k == api.KindMem))
		p.Kind, p.N = api.BlockRet, 0
		told(t, "BlockRet without results", panics, right(k == api.KindMem))
		for want := api.KindBool; want <= api.KindPtr; want++ {
			panics.Codes[0].Results, p.Args = list(api.KindI8, want), list(probe, arg, call)
			told(t, "BlockRet", panics, right(k == want))
			panics.Codes[0].Results, p.Args = list(want, api.KindI8), list(arg, probe, call)
			told(t, "BlockRet", panics, right(k == want))
		}
	}
}
