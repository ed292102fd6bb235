package link

import "gantry/api"

// code is the bytes of all parts, which begin at funcs.
func (r row) code(funcs []int) []byte {
	var code []byte
	for n, p := range r {
		imms := p.imms()
		at := funcs[n]
		for k, i := range p.insts {
			at += p.sizes[k]
			switch {
			case isJump(i):
				i = leading(i, imms[k])
			case isCall(i):
				i = leading(i, funcs[i.Label]-at)
			}
			b, _ := p.encode(i)
			code = append(code, b...)
		}
	}
	return code
}

// leading is i with the Imm that leads to its label.
func leading(i api.Inst, imm int) api.Inst {
	i.Imm, i.Label = int64(imm), 0
	return i
}

// target is the number of the instruction that the jump n goes to; the end has one, too.
func (p *part) target(n int) int { return p.marks[p.insts[n].Label] }

func (p *part) jumps() []int {
	var l []int
	for n, i := range p.insts {
		if isJump(i) {
			l = append(l, n)
		}
	}
	return l
}

// imms tells each jump's Imm, by the sizes that there are.
func (p *part) imms() []int {
	at, end := p.places()
	at = append(at, end)
	imms := make([]int, len(p.insts))
	for _, n := range p.jumps() {
		imms[n] = at[p.target(n)] - at[n+1]
	}
	return imms
}
