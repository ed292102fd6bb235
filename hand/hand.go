// Package hand makes programs in SSA form by hand, for tests of the packages that take such.
package hand

import (
	"slices"

	"gantry/api"
)

// The kinds of values.
const (
	Yes = api.KindBool
	I8  = api.KindI8
	I16 = api.KindI16
	I32 = api.KindI32
	I64 = api.KindI64
	U8  = api.KindU8
	U16 = api.KindU16
	U32 = api.KindU32
	U64 = api.KindU64
	F64 = api.KindF64
	Ptr = api.KindPtr
	Mem = api.KindMem
)

func list(l ...int) []int { return l }

// Maker makes a Code, value by value: each one stands at the end of the List of the last block; Memory is the one there, Ends those at the ends of the other blocks.
type Maker struct {
	api.Code
	Memory int
	Ends   []int
}

// Function begins a Code with its OpInit, and an OpArg for each parameter: the values 0, and 1 and on.
func Function(params, results []int) *Maker {
	m := &Maker{Code: api.Code{Params: params, Results: results, Blocks: make([]api.Block, 1)}}
	m.Add(api.OpInit, Mem, 0)
	for i, k := range params {
		m.Add(api.OpArg, k, int64(i))
	}
	return m
}

// Begin begins a function that is the Code 0.
func Begin(params ...int) *Maker { return Function(params, list(I64)) }

func (m *Maker) Add(op, kind int, n int64, args ...int) int {
	m.Values = append(m.Values, api.Value{Op: op, Kind: kind, N: n, Args: args})
	number := len(m.Values) - 1
	b := m.Last()
	b.List = append(b.List, number)
	return number
}

func (m *Maker) Con(kind int, x uint64) int { return m.Add(api.OpConst, kind, int64(x)) }

func (m *Maker) Num(x uint64) int { return m.Con(I64, x) }

func (m *Maker) Flag(x uint64) int { return m.Con(Yes, x) }

func (m *Maker) Point(x uint64) int { return m.Con(Ptr, x) }

func (m *Maker) Un(op int64, kind, x int) int { return m.Add(api.OpUn, kind, op, x) }

// Bin of the kind is told; a comparison tells a bool.
func (m *Maker) Bin(op int64, kind, x, y int) int {
	if op >= api.BinEq {
		kind = Yes
	}
	return m.Add(api.OpBin, kind, op, x, y)
}

func (m *Maker) Conv(kind, x int) int { return m.Add(api.OpConv, kind, 0, x) }

func (m *Maker) Sel(kind, x, first, second int) int {
	return m.Add(api.OpSel, kind, 0, x, first, second)
}

func (m *Maker) Data(n int64) int { return m.Add(api.OpData, Ptr, n) }

func (m *Maker) Addr(p int, n int64) int { return m.Add(api.OpAddr, Ptr, n, p) }

func (m *Maker) Element(p int, n int64, x, scale int) int {
	number := m.Add(api.OpAddr, Ptr, n, p, x)
	m.Values[number].M = scale
	return number
}

func (m *Maker) Load(kind, p int, n int64) int { return m.Add(api.OpLoad, kind, n, p, m.Memory) }

func (m *Maker) Store(p int, n int64, x int) {
	m.Memory = m.Add(api.OpStore, Mem, n, p, x, m.Memory)
}

func (m *Maker) Alloc(x int) int {
	m.Memory = m.Add(api.OpAlloc, Mem, 0, x, m.Memory)
	return m.Memory
}

// Block makes a new block of x bytes, and tells where it begins.
func (m *Maker) Block(x uint64) int { return m.Add(api.OpBlock, Ptr, 0, m.Alloc(m.Con(U64, x))) }

func (m *Maker) Emit(x int) { m.Memory = m.Add(api.OpEmit, Mem, 0, x, m.Memory) }

func (m *Maker) Call(f int64, args ...int) int {
	m.Memory = m.Add(api.OpCall, Mem, f, append(slices.Clone(args), m.Memory)...)
	return m.Memory
}

func (m *Maker) Result(kind, call int, n int64) int { return m.Add(api.OpResult, kind, n, call) }

// Phi makes an OpPhi; what it takes may be told later.
func (m *Maker) Phi(kind int, args ...int) int { return m.Add(api.OpPhi, kind, 0, args...) }

func (m *Maker) Takes(phi int, args ...int) { m.Values[phi].Args = args }

// MemoryPhi: it is the memory of its block from there on.
func (m *Maker) MemoryPhi(args ...int) int {
	m.Memory = m.Phi(Mem, args...)
	return m.Memory
}

func (m *Maker) Last() *api.Block { return &m.Blocks[len(m.Blocks)-1] }

// Plain ends the block, as Branch, Ret, Panics and Done do.
func (m *Maker) Plain(to int) { m.Last().Kind, m.Last().Succs = api.BlockPlain, list(to) }

func (m *Maker) Branch(x, to, other int) {
	b := m.Last()
	b.Kind, b.Succs, b.Args = api.BlockIf, list(to, other), list(x)
}

func (m *Maker) Ret(results ...int) {
	m.Last().Kind, m.Last().Args = api.BlockRet, append(slices.Clone(results), m.Memory)
}

func (m *Maker) Panics(n int64) {
	b := m.Last()
	b.Kind, b.N, b.Args = api.BlockPanic, n, list(m.Memory)
}

// Done returns 0.
func (m *Maker) Done() *Maker {
	m.Ret(m.Num(0))
	return m
}

// Next begins one more block, that is come to from these; the memory is that at the end of the first one of them that is known, if no OpPhi is laid.
func (m *Maker) Next(preds ...int) {
	m.Ends = append(m.Ends, m.Memory)
	m.Blocks = append(m.Blocks, api.Block{Preds: preds})
	known := slices.IndexFunc(preds, func(p int) bool { return p < len(m.Ends) })
	m.Memory = m.Ends[preds[known]]
}

func Unit(l ...*Maker) api.Unit {
	var u api.Unit
	for _, m := range l {
		u.Codes = append(u.Codes, m.Code)
	}
	return u
}

func WithData(data []byte, l ...*Maker) api.Unit {
	u := Unit(l...)
	u.Data = data
	return u
}

// Counter counts from 0 up to its argument, tells each number behind 0, and then their sum: its values are the OpInit 0, the OpArg 1, the OpConsts 2 and 3; the OpPhis 4, 5, and 6 of KindMem; the comparison 7; the sums 8 and 9, the OpEmit 10.
func Counter() *Maker {
	m := Begin(I64)
	zero, one := m.Num(0), m.Num(1)
	m.Plain(1)
	m.Next(0, 2)
	i, sum, loop := m.Phi(I64), m.Phi(I64), m.MemoryPhi()
	m.Branch(m.Bin(api.BinLt, I64, i, 1), 2, 3)
	m.Next(1)
	more := m.Bin(api.BinAdd, I64, i, one)
	sums := m.Bin(api.BinAdd, I64, sum, more)
	m.Emit(more)
	m.Takes(i, zero, more)
	m.Takes(sum, zero, sums)
	m.Takes(loop, 0, m.Memory)
	m.Plain(1)
	m.Next(1)
	m.Ret(sum)
	return m
}
