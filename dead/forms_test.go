package dead_test

import (
	"fmt"
	"slices"
	"testing"

	"gantry/api"
	. "gantry/hand"
	"gantry/sample"
	"gantry/trial"
)

// use is who needs a value: of the kinds that it names, or all; lay lays it, with another value of the same kind, and tells those that are needed, or not, with the value.
type use struct {
	name  string
	kinds []int
	lay   func(m *Maker, kind, x, other int) []int
}

// numbers are the kinds that a run can tell.
func numbers() []int { return append(Ints(), Yes, F64) }

// needing are the uses by what is needed.
func needing() []use {
	return []use{
		{"stored", nil, func(m *Maker, kind, x, other int) []int {
			p := m.Block(16)
			m.Store(p, 3, x)
			return []int{p}
		}},
		{"handed over", nil, func(m *Maker, kind, x, other int) []int {
			return []int{m.Call(2, x)}
		}},
		{"returned", nil, func(m *Maker, kind, x, other int) []int {
			m.Ret(x)
			return nil
		}},
		{"chosen", nil, func(m *Maker, kind, x, other int) []int {
			y := m.Sel(kind, flag, other, x)
			m.Ret(y)
			return []int{y, flag, other}
		}},
		{"handed on", nil, func(m *Maker, kind, x, other int) []int {
			y := m.Sel(kind, flag, x, other)
			m.Branch(flag, 1, 2)
			m.Next(0)
			m.Plain(2)
			m.Next(0, 1)
			z := m.Phi(kind, other, y)
			v := m.Sel(kind, flag, z, other)
			m.Ret(v)
			return []int{y, z, v, flag, other}
		}},
		{"told", numbers(), func(m *Maker, kind, x, other int) []int {
			m.Emit(x)
			return []int{m.Memory}
		}},
		{"a size", []int{U64}, func(m *Maker, kind, x, other int) []int { return []int{m.Alloc(x)} }},
		{"stored to", []int{Ptr}, func(m *Maker, kind, x, other int) []int {
			m.Store(x, 0, flag)
			return []int{flag}
		}},
		{"loaded from", []int{Ptr}, func(m *Maker, kind, x, other int) []int {
			y := m.Load(I16, x, 5)
			m.Emit(y)
			return []int{y}
		}},
		{"asked", []int{Yes}, func(m *Maker, kind, x, other int) []int {
			m.Branch(x, 1, 2)
			m.Next(0)
			m.Panics(7)
			m.Next(0)
			return []int{0}
		}},
	}
}

// wasting are uses by what nobody needs.
func wasting() []use {
	return []use{
		{"not used", nil, func(m *Maker, kind, x, other int) []int { return []int{flag, index, point, first, second, other} }},
		{"used by one that goes", nil, func(m *Maker, kind, x, other int) []int {
			y := m.Sel(kind, flag, x, x)
			return []int{y, flag, index, point, first, second, other}
		}},
		{"used by one that goes, far", nil, func(m *Maker, kind, x, other int) []int {
			y := m.Sel(kind, flag, other, x)
			m.Plain(1)
			m.Next(0)
			z := m.Sel(kind, flag, x, y)
			m.Plain(2)
			m.Next(1)
			v := m.Bin(api.BinEq, Yes, flag, flag)
			return []int{y, z, v, flag, index, point, first, second, other}
		}},
		{"used by OpPhis that go", nil, func(m *Maker, kind, x, other int) []int {
			m.Branch(flag, 1, 2)
			m.Next(0)
			m.Plain(2)
			m.Next(0, 1)
			return []int{m.Phi(kind, x, other), m.Phi(kind, other, x), index, point, first, second, other}
		}},
		{"used by OpPhis that go, in a loop", nil, func(m *Maker, kind, x, other int) []int {
			m.Plain(1)
			m.Next(0, 1)
			y, v := m.Phi(kind), m.Phi(kind)
			z := m.Sel(kind, flag, y, x)
			m.Takes(y, x, z)
			m.Takes(v, other, v)
			m.Branch(flag, 2, 1)
			m.Next(1)
			return []int{y, z, v, index, point, first, second, other}
		}},
		{"loaded from, of no use", []int{Ptr}, func(m *Maker, kind, x, other int) []int {
			y := m.Load(I16, x, 5)
			return []int{y, flag, index, point, first, second, other}
		}},
	}
}

// argument is the form that package trial does not have.
func argument(kind int) trial.Form {
	return trial.Form{Name: "an argument", Lay: func(m *Maker) func() int {
		return func() int { return m.Add(api.OpArg, kind, 3) }
	}}
}

// formOf tells a unit the last Code of which lays a value, and uses it, if it is of the use's kinds; that value, and those with it.
func formOf(kind int, f trial.Form, u use) (unit api.Unit, x int, with []int, is bool) {
	m := trial.Start(kind)
	one := f.Lay(m)
	x = one()
	told := m.Values[x].Kind
	if u.kinds != nil && !slices.Contains(u.kinds, told) {
		return unit, 0, nil, false
	}
	with = u.lay(m, told, x, m.Con(told, 0))
	m.Results = []int{told}
	if m.Last().Kind == api.BlockNone {
		m.Ret(m.Con(told, 1))
	}
	return WithData([]byte("data"), caller(kind, told), trial.Same(kind), trial.Same(told), m), x, with, true
}

// caller is the Code 0: it hands its arguments to the last Code, and tells what that one tells.
func caller(kind, told int) *Maker {
	m := trial.Start(kind)
	call := m.Call(3, flag, index, point, first, second)
	trial.Tell(m, m.Result(told, call, 0))
	return m.Done()
}

// TestForms: P19.1, P19.2: each form of each kind, of which nobody makes use, or which is needed.
func TestForms(t *testing.T) {
	for _, kind := range Words() {
		t.Run(fmt.Sprint("kind ", kind), func(t *testing.T) {
			t.Parallel()
			turns := sample.Turns(kind)
			for _, f := range append(trial.Forms(kind), argument(kind)) {
				for _, s := range needing() {
					if u, x, with, is := formOf(kind, f, s); is {
						expect(t, fmt.Sprint(f.Name, ", ", s.name), u, nil, append(with, x), trial.Some(&turns, kind, 2)...)
					}
				}
				for _, s := range wasting() {
					if u, x, with, is := formOf(kind, f, s); is {
						if f.Name == "a result" || f.Name == "a load" || kind == Ptr {
							with = with[:1] // what it is of needs some of the others
							if s.name == "not used" {
								with = nil
							}
						}
						expect(t, fmt.Sprint(f.Name, ", ", s.name), u, append(with, x), nil, trial.Some(&turns, kind, 2)...)
					}
				}
			}
		})
	}
}
