package link

// A jump of one byte: its Imm is below far, and it leads over at most near bytes, which are no fewer than instructions.
const (
	far  = 128
	near = 128
)

// grow lengthens jumps until each Imm fits. They begin as short as can be, and the longer others are, the farther each one leads: so what does not fit at some time is long in every way in which all fit.
func (p *part) grow() {
	imms := p.imms()
	tooFar := p.tooFar(imms)
growing:
	for {
		var next []int
		for _, n := range tooFar {
			next = append(next, p.lengthen(n, imms)...)
		}
		if len(next) == 0 {
			break growing
		}
		tooFar = next
	}
}

func (p *part) tooFar(imms []int) []int {
	var l []int
	for _, n := range p.jumps() {
		if !fitsByte(imms[n]) {
			l = append(l, n)
		}
	}
	return l
}

func fitsByte(imm int) bool { return imm == int(int8(imm)) }

// lengthen makes the jump n long, and tells those that do not fit any more by that: each one once, since an Imm only moves away from 0. Only what is near need be looked at.
func (p *part) lengthen(n int, imms []int) []int {
	b, _ := p.encode(leading(p.insts[n], far))
	more := len(b) - p.sizes[n]
	p.sizes[n] = len(b)
	var l []int
	for j := max(0, n-near); j < min(len(p.insts), n+near+1); j++ {
		if !fitsByte(imms[j]) {
			continue
		}
		imms[j] += more * p.over(j, n)
		if !fitsByte(imms[j]) {
			l = append(l, j)
		}
	}
	return l
}

// over tells how the instruction j leads over another one, n: as a jump ahead (1), backwards (-1), or not at all.
func (p *part) over(j, n int) int {
	if !isJump(p.insts[j]) {
		return 0
	}
	switch to := p.target(j); {
	case j < n && n < to:
		return 1
	case to <= n && n < j:
		return -1
	}
	return 0
}
