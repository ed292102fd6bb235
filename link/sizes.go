package link

import "gantry/api"

// part is a piece that is linked, and how many bytes each of its instructions has.
type part struct {
	encode encoder
	insts  []api.Inst
	marks  []int
	sizes  []int
}

// row is parts, one behind the other.
type row []*part

func (p *part) size(n int) int { return p.sizes[n] }

func (r row) size(n int) int {
	_, end := r[n].places()
	return end
}

func (p *part) places() ([]int, int) { return places(len(p.insts), p.size) }

func (r row) places() ([]int, int) { return places(len(r), r.size) }

func (r row) tooLarge() bool {
	_, end := r.places()
	return end > api.MaxCode
}

// places tells where each of n things begins that lie one behind the other, and where the last one ends.
func places(n int, size func(int) int) ([]int, int) {
	at, end := make([]int, n), 0
	for k := range at {
		at[k] = end
		end += size(k)
	}
	return at, end
}
