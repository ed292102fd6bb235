package run

import (
	"math"

	"gantry/api"
	"gantry/risc"
)

// r64 is a machine of TargetR.
type r64 struct {
	core
}

func (m *r64) step() api.Inst {
	i := m.fetch(risc.Decode)
	r := &m.regs
	switch i.Op {
	case api.InstMovH:
		r[i.A] = r[i.A]&math.MaxUint32 | uint64(i.Imm)<<32
	case api.InstBin:
		r[i.A] = bin(i.Sub, i.K, r[i.B], r[i.C])
	case api.InstUn:
		r[i.A] = un(i.Sub, i.K, r[i.B])
	case api.InstAddI:
		r[i.A] = r[i.B] + uint64(i.Imm)
	case api.InstSel:
		if r[i.B] != 0 {
			r[i.A] = r[i.C]
		} else {
			r[i.A] = r[i.Imm]
		}
	case api.InstJnz:
		if r[i.A] != 0 {
			m.jump(i.Imm)
		}
	case api.InstJz:
		if r[i.A] == 0 {
			m.jump(i.Imm)
		}
	default:
		m.both(i)
	}
	return i
}
