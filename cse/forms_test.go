package cse_test

import (
	"fmt"

	"gantry/api"
	. "gantry/hand"
)

// form is a value that may be told more than once, in a function that has arguments of a kind: lay lays what it needs into block 0, and tells what lays the value, whenever it is called.
type form struct {
	name string
	lay  func(m *Maker) func() int
}

func simple(name string, make func(m *Maker) int) form {
	return form{name, func(m *Maker) func() int { return func() int { return make(m) } }}
}

// formsOf tells all forms of a kind but OpArg, that stands in block 0 alone.
func formsOf(kind int) []form {
	l := []form{
		simple("a constant", func(m *Maker) int { return m.Con(kind, Edges(kind)[1]) }),
		simple("a choice", func(m *Maker) int { return m.Sel(kind, flag, first, second) }),
		simple("a choice of one", func(m *Maker) int { return m.Sel(kind, flag, first, first) }),
	}
	for _, op := range UnOps(kind) {
		l = append(l, simple(fmt.Sprint("un ", op), func(m *Maker) int { return m.Un(op, kind, first) }))
	}
	for _, op := range BinOps(kind) {
		second := second
		if ByKind(op, kind) == U64 {
			second = index
		}
		l = append(l, simple(fmt.Sprint("bin ", op), func(m *Maker) int { return m.Bin(op, kind, first, second) }))
	}
	if IsInt(kind) || kind == F64 {
		for _, to := range append(Ints(), F64) {
			l = append(l, simple(fmt.Sprint("as ", to), func(m *Maker) int { return m.Conv(to, first) }))
		}
	}
	return append(append(l, memoryForms(kind)...), pointerForms(kind)...)
}

// memoryForms: an OpLoad, an OpResult.
func memoryForms(kind int) []form {
	return []form{
		{"a load", func(m *Maker) func() int {
			p := m.Block(32)
			m.Store(p, 9, first)
			return func() int { return m.Load(kind, p, 9) }
		}},
		{"a result", func(m *Maker) func() int {
			call := m.Call(1, second)
			return func() int { return m.Result(kind, call, 0) }
		}},
	}
}

// pointerForms: an OpData, OpAddrs, an OpBlock.
func pointerForms(kind int) []form {
	if kind != Ptr {
		return nil
	}
	return []form{
		simple("data", func(m *Maker) int { return m.Data(3) }),
		simple("data at 0", func(m *Maker) int { return m.Data(0) }),
		simple("an address", func(m *Maker) int { return m.Addr(first, 5) }),
		simple("an address, the same", func(m *Maker) int { return m.Addr(first, 0) }),
		simple("an element", func(m *Maker) int { return m.Element(first, 5, index, 12) }),
		simple("an element of no size", func(m *Maker) int { return m.Element(first, 5, index, 0) }),
		{"a block", func(m *Maker) func() int {
			one := m.Alloc(m.Con(U64, 24))
			return func() int { return m.Add(api.OpBlock, Ptr, 0, one) }
		}},
	}
}
