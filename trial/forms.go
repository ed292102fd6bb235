package trial

import (
	"strconv"

	"gantry/api"
	. "gantry/hand"
)

// Form is a value that makes no memory, in a function that Start begins: Lay lays what it needs into block 0, and tells what lays the value, whenever it is called.
type Form struct {
	Name string
	Lay  func(m *Maker) func() int
}

func simple(name string, make func(m *Maker) int) Form {
	return Form{name, func(m *Maker) func() int { return func() int { return make(m) } }}
}

// Forms tells all forms of a kind but OpArgs, that stand in block 0 alone, and OpPhis; a Code 1 must be Same(kind), and there must be three Data.
func Forms(kind int) []Form {
	l := []Form{
		simple("a constant", func(m *Maker) int { return m.Con(kind, Edges(kind)[1]) }),
		simple("a choice", func(m *Maker) int { return m.Sel(kind, Flags, First, Second) }),
		simple("a choice of one", func(m *Maker) int { return m.Sel(kind, Flags, First, First) }),
	}
	for _, op := range UnOps(kind) {
		l = append(l, simple(named("un", op), func(m *Maker) int { return m.Un(op, kind, First) }))
	}
	for _, op := range BinOps(kind) {
		by := Second
		if ByKind(op, kind) == U64 {
			by = Index
		}
		l = append(l, simple(named("bin", op), func(m *Maker) int { return m.Bin(op, kind, First, by) }))
	}
	if IsInt(kind) || kind == F64 {
		for _, to := range append(Ints(), F64) {
			l = append(l, simple(named("as", int64(to)), func(m *Maker) int { return m.Conv(to, First) }))
		}
	}
	return append(append(l, memoryForms(kind)...), pointerForms(kind)...)
}

// memoryForms: an OpLoad, an OpResult.
func memoryForms(kind int) []Form {
	return []Form{
		{"a load", func(m *Maker) func() int {
			p := m.Block(32)
			m.Store(p, 9, First)
			return func() int { return m.Load(kind, p, 9) }
		}},
		{"a result", func(m *Maker) func() int {
			call := m.Call(1, Second)
			return func() int { return m.Result(kind, call, 0) }
		}},
	}
}

// pointerForms: an OpData, OpAddrs, an OpBlock.
func pointerForms(kind int) []Form {
	if kind != Ptr {
		return nil
	}
	return []Form{
		simple("data", func(m *Maker) int { return m.Data(3) }),
		simple("data at 0", func(m *Maker) int { return m.Data(0) }),
		simple("an address", func(m *Maker) int { return m.Addr(First, 5) }),
		simple("an address, the same", func(m *Maker) int { return m.Addr(First, 0) }),
		simple("an element", func(m *Maker) int { return m.Element(First, 5, Index, 12) }),
		simple("an element of no size", func(m *Maker) int { return m.Element(First, 5, Index, 0) }),
		{"a block", func(m *Maker) func() int {
			one := m.Alloc(m.Con(U64, 24))
			return func() int { return m.Add(api.OpBlock, Ptr, 0, one) }
		}},
	}
}

func named(what string, n int64) string { return what + " " + strconv.FormatInt(n, 10) }

// Same is a function that tells its argument.
func Same(kind int) *Maker {
	m := Function([]int{kind}, []int{kind})
	m.Ret(1)
	return m
}
