package link

import (
	"gantry/api"
	"gantry/cisc"
	"gantry/risc"
)

// encoder tells an instruction's bytes on one target.
type encoder func(api.Inst) ([]byte, api.Errno)

func encoderOf(target int) (encoder, bool) {
	switch target {
	case api.TargetR:
		return risc.Encode, true
	case api.TargetC:
		return cisc.Encode, true
	}
	return nil, false
}

// take makes parts of pieces; false, if these may not be.
func take(target int, pieces []api.Piece) (row, bool) {
	encode, known := encoderOf(target)
	if !known || len(pieces) == 0 || len(pieces) > api.MaxFuncs+1 {
		return nil, false
	}
	var parts row
	for _, given := range pieces {
		p := &part{encode: encode, insts: given.Insts, marks: given.Marks}
		if !p.marksMayBe() || !p.measure(len(pieces)) {
			return nil, false
		}
		parts = append(parts, p)
	}
	return parts, true
}

func (p *part) marksMayBe() bool {
	for _, at := range p.marks {
		if at < 0 || at > len(p.insts) {
			return false
		}
	}
	return true
}

// measure asks the least size of each instruction, which is a jump's with Imm 0; false, if there is one that may not be among so many pieces.
func (p *part) measure(pieces int) bool {
	p.sizes = make([]int, len(p.insts))
	for n, i := range p.insts {
		if !p.labelMayBe(i, pieces) {
			return false
		}
		i.Label = 0
		b, e := p.encode(i)
		if e != api.OK {
			return false
		}
		p.sizes[n] = len(b)
	}
	return true
}

// labelMayBe: what leads somewhere has a label, and no Imm yet; all else has no label.
func (p *part) labelMayBe(i api.Inst, pieces int) bool {
	switch {
	case isJump(i):
		return i.Imm == 0 && i.Label >= 0 && i.Label < len(p.marks)
	case isCall(i):
		return i.Imm == 0 && i.Label >= 0 && i.Label < pieces
	}
	return i.Label == 0
}

func isJump(i api.Inst) bool {
	switch i.Op {
	case api.InstJmp, api.InstJnz, api.InstJz, api.InstJcc:
		return true
	}
	return false
}

func isCall(i api.Inst) bool { return i.Op == api.InstCall }
