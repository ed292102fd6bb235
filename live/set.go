package live

import "iter"

// sparse is a sparse set of blocks: of each member its place among members, of each place its member. It is emptied in no time, whatever places still say of those that were in it.
type sparse struct {
	members []int // in the order in which they came in
	places  []int
}

func (s *sparse) has(b int) bool {
	p := s.places[b]
	return p < len(s.members) && s.members[p] == b
}

func (s *sparse) add(b int) {
	if !s.has(b) {
		s.places[b] = len(s.members)
		s.members = append(s.members, b)
	}
}

func (s *sparse) clear() { s.members = s.members[:0] }

// each hands out all members, those too that come in meanwhile: who adds what a member asks for goes on until nothing changes.
func (s *sparse) each(yield func(b int) bool) {
	for i := 0; i < len(s.members); i++ {
		if !yield(s.members[i]) {
			return
		}
	}
}

// set is what others see of a sparse set: its methods' values, and no slices.
type set struct {
	has   func(b int) bool
	add   func(b int)
	clear func()
	each  iter.Seq[int]
}

// newSet makes an empty set of blocks below count.
func newSet(count int) set {
	s := &sparse{members: make([]int, 0, count), places: make([]int, count)}
	return set{has: s.has, add: s.add, clear: s.clear, each: s.each}
}
