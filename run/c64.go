package run

import (
	"gantry/api"
	"gantry/cisc"
	"gantry/word"
)

// otherReg is where a division leaves the other one of quotient and rest.
const otherReg = 2

// c64 is a machine of TargetC.
type c64 struct {
	core
	flags flags
}

// flags are what the last comparison was about; of KindNone, if there was none.
type flags struct {
	kind int
	x, y uint64
}

func (m *c64) step() api.Inst {
	i := m.fetch(cisc.Decode)
	r := &m.regs
	switch i.Op {
	case api.InstBin:
		m.binary(i)
	case api.InstBinI:
		r[i.A] = bin(i.Sub, i.K, r[i.A], uint64(i.Imm))
	case api.InstBinM:
		r[i.A] = bin(i.Sub, i.K, r[i.A], m.load(r[i.B]+uint64(i.Imm), i.K))
	case api.InstUn:
		r[i.A] = un(i.Sub, i.K, r[i.A])
	case api.InstLea:
		r[i.A] = m.address(i)
	case api.InstLoadX:
		r[i.A] = m.load(m.address(i), i.K)
	case api.InstStoreX:
		m.store(m.address(i), i.K, r[i.A])
	case api.InstSel:
		if m.say(i.Sub) == 1 {
			r[i.A] = r[i.B]
		}
	case api.InstCmp:
		m.compare(i.K, r[i.A], r[i.B])
	case api.InstCmpI:
		m.compare(i.K, r[i.A], uint64(i.Imm))
	case api.InstSet:
		r[i.A] = m.say(i.Sub)
	case api.InstJcc:
		if m.say(i.Sub) == 1 {
			m.jump(i.Imm)
		}
	default:
		m.both(i)
	}
	return i
}

// binary is InstBin: a division leaves both of its answers.
func (m *c64) binary(i api.Inst) {
	x, y := m.regs[i.A], m.regs[i.B]
	if other := otherOf(i.Sub); other != api.BinNone && i.K != api.KindF64 {
		m.regs[otherReg] = bin(other, i.K, x, y)
	}
	m.regs[i.A] = bin(i.Sub, i.K, x, y)
}

// otherOf is the operation that a division does beside op.
func otherOf(op int) int {
	switch op {
	case api.BinDiv:
		return api.BinRem
	case api.BinRem:
		return api.BinDiv
	}
	return api.BinNone
}

func (m *c64) address(i api.Inst) uint64 {
	return m.regs[i.B] + m.regs[i.C]*uint64(i.Scale) + uint64(i.Imm)
}

func (m *c64) compare(k int, x, y uint64) {
	m.flags = flags{kind: k, x: word.Canon(k, x), y: word.Canon(k, y)}
}

// say tells whether the flags say op. Without a comparison they are of no kind: then no operation is theirs.
func (m *c64) say(op int) uint64 {
	return bin(op, m.flags.kind, m.flags.x, m.flags.y)
}
