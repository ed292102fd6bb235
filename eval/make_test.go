package eval_test

import (
	"math"
	"slices"
	"testing"

	"gantry/api"
	"gantry/eval"
	"gantry/ssa"
)

const (
	yes = api.KindBool
	i8  = api.KindI8
	i16 = api.KindI16
	i32 = api.KindI32
	i64 = api.KindI64
	u8  = api.KindU8
	u16 = api.KindU16
	u32 = api.KindU32
	u64 = api.KindU64
	f64 = api.KindF64
	ptr = api.KindPtr
	mem = api.KindMem
)

func kinds(l ...int) []int { return l }

func words(l ...uint64) []uint64 { return l }

func minus(n int) uint64 { return uint64(-n) }

func bits(x float64) uint64 { return math.Float64bits(x) }

// maker makes a Code, value by value: each one stands at the end of the List of the last block; memory is the one there, ends those at the ends of the other blocks.
type maker struct {
	api.Code
	memory int
	ends   []int
}

// function begins a Code with its OpInit, and an OpArg for each parameter: the values 0, and 1 and on.
func function(params, results []int) *maker {
	m := &maker{Code: api.Code{Params: params, Results: results, Blocks: make([]api.Block, 1)}}
	m.add(api.OpInit, mem, 0)
	for i, k := range params {
		m.add(api.OpArg, k, int64(i))
	}
	return m
}

// begin begins a function that is the Code 0.
func begin(params ...int) *maker { return function(params, kinds(i64)) }

func (m *maker) add(op, kind int, n int64, args ...int) int {
	m.Values = append(m.Values, api.Value{Op: op, Kind: kind, N: n, Args: args})
	number := len(m.Values) - 1
	b := m.last()
	b.List = append(b.List, number)
	return number
}

func (m *maker) con(kind int, x uint64) int { return m.add(api.OpConst, kind, int64(x)) }

func (m *maker) num(x uint64) int { return m.con(i64, x) }

func (m *maker) flag(x uint64) int { return m.con(yes, x) }

func (m *maker) point(x uint64) int { return m.con(ptr, x) }

func (m *maker) un(op int64, kind, x int) int { return m.add(api.OpUn, kind, op, x) }

// bin of the kind is told; a comparison tells a bool.
func (m *maker) bin(op int64, kind, x, y int) int {
	if op >= api.BinEq {
		kind = yes
	}
	return m.add(api.OpBin, kind, op, x, y)
}

func (m *maker) conv(kind, x int) int { return m.add(api.OpConv, kind, 0, x) }

func (m *maker) sel(kind, x, first, second int) int {
	return m.add(api.OpSel, kind, 0, x, first, second)
}

func (m *maker) data(n int64) int { return m.add(api.OpData, ptr, n) }

func (m *maker) addr(p int, n int64) int { return m.add(api.OpAddr, ptr, n, p) }

func (m *maker) element(p int, n int64, x, scale int) int {
	number := m.add(api.OpAddr, ptr, n, p, x)
	m.Values[number].M = scale
	return number
}

func (m *maker) load(kind, p int, n int64) int { return m.add(api.OpLoad, kind, n, p, m.memory) }

func (m *maker) store(p int, n int64, x int) {
	m.memory = m.add(api.OpStore, mem, n, p, x, m.memory)
}

func (m *maker) alloc(x int) int {
	m.memory = m.add(api.OpAlloc, mem, 0, x, m.memory)
	return m.memory
}

// block makes a new block of x bytes, and tells where it begins.
func (m *maker) block(x uint64) int { return m.add(api.OpBlock, ptr, 0, m.alloc(m.con(u64, x))) }

func (m *maker) emit(x int) { m.memory = m.add(api.OpEmit, mem, 0, x, m.memory) }

func (m *maker) call(f int64, args ...int) int {
	m.memory = m.add(api.OpCall, mem, f, append(slices.Clone(args), m.memory)...)
	return m.memory
}

func (m *maker) result(kind, call int, n int64) int { return m.add(api.OpResult, kind, n, call) }

// phi makes an OpPhi; what it takes may be told later.
func (m *maker) phi(kind int, args ...int) int { return m.add(api.OpPhi, kind, 0, args...) }

func (m *maker) takes(phi int, args ...int) { m.Values[phi].Args = args }

// memoryPhi: it is the memory of its block from there on.
func (m *maker) memoryPhi(args ...int) int {
	m.memory = m.phi(mem, args...)
	return m.memory
}

func (m *maker) last() *api.Block { return &m.Blocks[len(m.Blocks)-1] }

// plain ends the block, as branch, ret, panics and done do.
func (m *maker) plain(to int) { m.last().Kind, m.last().Succs = api.BlockPlain, kinds(to) }

func (m *maker) branch(x, to, other int) {
	b := m.last()
	b.Kind, b.Succs, b.Args = api.BlockIf, kinds(to, other), kinds(x)
}

func (m *maker) ret(results ...int) {
	m.last().Kind, m.last().Args = api.BlockRet, append(slices.Clone(results), m.memory)
}

func (m *maker) panics(n int64) {
	b := m.last()
	b.Kind, b.N, b.Args = api.BlockPanic, n, kinds(m.memory)
}

// done returns 0.
func (m *maker) done() *maker {
	m.ret(m.num(0))
	return m
}

// next begins one more block, that is come to from these; the memory is that at the end of the first one of them that is known, if no OpPhi is laid.
func (m *maker) next(preds ...int) {
	m.ends = append(m.ends, m.memory)
	m.Blocks = append(m.Blocks, api.Block{Preds: preds})
	known := slices.IndexFunc(preds, func(p int) bool { return p < len(m.ends) })
	m.memory = m.ends[preds[known]]
}

func unit(l ...*maker) api.Unit {
	var u api.Unit
	for _, m := range l {
		u.Codes = append(u.Codes, m.Code)
	}
	return u
}

func withData(data []byte, l ...*maker) api.Unit {
	u := unit(l...)
	u.Data = data
	return u
}

func sameCall(a, b api.Call) bool {
	return a.Func == b.Func && slices.Equal(a.Args, b.Args) && a.Back == b.Back && slices.Equal(a.Results, b.Results)
}

// same: a nil list and an empty one are one.
func same(a, b api.Run) bool {
	return slices.Equal(a.Trace, b.Trace) && slices.EqualFunc(a.Calls, b.Calls, sameCall) && a.End == b.End && a.N == b.N && a.Steps == b.Steps
}

// ran runs a unit that checks.
func ran(t *testing.T, name string, u api.Unit, args []uint64, fuel int) api.Run {
	t.Helper()
	if e := ssa.Check(u); e != api.OK {
		t.Fatalf("%s: not right: %d", name, e)
	}
	r, e := eval.Run(u, args, fuel)
	if e != api.OK {
		t.Fatalf("%s: %d", name, e)
	}
	return r
}

// runs holds all of a run.
func runs(t *testing.T, name string, u api.Unit, args []uint64, fuel int, want api.Run) {
	t.Helper()
	if r := ran(t, name, u, args, fuel); !same(r, want) {
		t.Errorf("%s: %+v, not %+v", name, r, want)
	}
}

// ends holds a run's end and its trace.
func ends(t *testing.T, name string, u api.Unit, args []uint64, end int, n int64, trace ...uint64) {
	t.Helper()
	if r := ran(t, name, u, args, 100000); r.End != end || r.N != n || !slices.Equal(r.Trace, trace) {
		t.Errorf("%s: end %d, %d, trace %d, not %d, %d, %d", name, r.End, r.N, r.Trace, end, n, trace)
	}
}

// exits holds that a run ends with 0, and its trace.
func exits(t *testing.T, name string, u api.Unit, trace ...uint64) {
	t.Helper()
	ends(t, name, u, nil, api.EndExit, 0, trace...)
}

func stuck(t *testing.T, name string, u api.Unit, trace ...uint64) {
	t.Helper()
	ends(t, name, u, nil, api.EndStuck, 0, trace...)
}

func full(t *testing.T, name string, u api.Unit, trace ...uint64) {
	t.Helper()
	ends(t, name, u, nil, api.EndResource, 0, trace...)
}
