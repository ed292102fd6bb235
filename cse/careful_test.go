package cse_test

import (
	"fmt"
	"testing"

	"gantry/api"
	"gantry/compare"
	"gantry/eval"
	. "gantry/hand"
	"gantry/trial"
)

// divided lays a branch whose one side divides, twice, and whose other one goes on by two ways: one of them divides, too, if sides is 2; the other one never does.
func divided(op int64, kind, sides int) *Maker {
	m := trial.Start(kind)
	m.Branch(flag, 1, 2)
	m.Next(0)
	x := m.Bin(op, kind, first, second)
	end(m, x, m.Bin(op, kind, first, second))
	m.Next(0)
	m.Branch(m.Bin(api.BinLt, U64, index, m.Con(U64, 2)), 3, 4)
	m.Next(2)
	if sides == 2 {
		end(m, m.Bin(op, kind, first, second))
	} else {
		end(m, first)
	}
	m.Next(2)
	end(m, second)
	return m
}

// TestCareful: P18.1: a division, the divisor of which may be 0, in a branch that is gone to, and in one that is not: where nothing is divided nothing is stuck.
func TestCareful(t *testing.T) {
	t.Parallel()
	var ends [api.EndStuck + 1]int
	for _, kind := range append(Ints(), F64) {
		for _, op := range []int64{api.BinDiv, api.BinRem} {
			if kind == F64 && op == api.BinRem {
				continue
			}
			for sides := range 3 {
				m := divided(op, kind, sides)
				for choice := range uint64(2) {
					for _, l := range [][]uint64{{choice, 1, 0, 7, 0}, {choice, 3, 0, 7, 0}, {choice, 3, 0, 7, 2}, {choice, 1, 0, 0, 0}} {
						made := pass.Goes(t, "a division", Unit(m), l)
						if many := compare.Count(made.Codes[0], api.OpBin); many > 2+sides/2 {
							t.Errorf("%d OpBins: %+v", many, made)
						}
						r, _ := eval.Run(made, l, 100)
						ends[r.End]++
						if stuck := kind != F64 && l[4] == 0 && (choice == 1 || sides == 2 && l[1] == 1); (r.End == api.EndStuck) != stuck {
							t.Errorf("kind %d, %d, %d: %+v", kind, op, l, r)
						}
					}
				}
			}
		}
	}
	if ends[api.EndStuck] < 50 || ends[api.EndExit] < 50 {
		t.Errorf("%d", ends)
	}
}

// TestStuckOnce: P18.1: a division by 0 that is told ahead of all, and once more behind what is told: the run ends where it ended.
func TestStuckOnce(t *testing.T) {
	for _, divisor := range []uint64{0, 1, 5} {
		m := trial.Start(I64)
		m.Emit(first)
		x := m.Bin(api.BinRem, I64, first, second)
		m.Emit(x)
		y := m.Bin(api.BinRem, I64, first, second)
		m.Emit(y)
		m.Ret(y)
		pass.Loses(t, fmt.Sprint("by ", divisor), Unit(m), 1, []uint64{0, 0, 0, 7, divisor})
	}
}

// TestLoadsInBranches: P18.1: a load of an address that is not there, in a branch that is not gone to, and in both sides.
func TestLoadsInBranches(t *testing.T) {
	m := trial.Start(I64)
	m.Branch(flag, 1, 2)
	m.Next(0)
	x := m.Load(I64, point, 0)
	end(m, x, first)
	m.Next(0)
	m.Branch(m.Bin(api.BinLt, U64, index, m.Con(U64, 2)), 3, 4)
	m.Next(2)
	end(m, m.Load(I64, point, 0), m.Load(I64, point, 0))
	m.Next(2)
	end(m, first)
	u := WithData(make([]byte, 8), m)
	for _, l := range [][]uint64{{1, 0, 0, 5, 6}, {0, 0, 0, 5, 6}, {0, 3, 0, 5, 6}, {1, 0, 1 << 12, 5, 6}, {0, 0, 1 << 12, 5, 6}, {0, 3, 1 << 12, 5, 6}} {
		pass.Loses(t, "loads in branches", u, 1, l)
	}
}
