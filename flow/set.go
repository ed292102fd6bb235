package flow

import "slices"

// none stands where there is no number of a block or of a loop.
const none = -1

// set is a sparse set of blocks: of each member its place among members, of each place its member. It is emptied in no time, whatever places still say of those that were in it.
type set struct {
	members []int // in the order in which they came in
	places  []int
}

// newSet makes an empty set of numbers below count.
func newSet(count int) *set {
	return &set{members: make([]int, 0, count), places: make([]int, count)}
}

func (s *set) has(b int) bool {
	p := s.places[b]
	return p < len(s.members) && s.members[p] == b
}

// add puts in one that is not there yet.
func (s *set) add(b int) {
	s.places[b] = len(s.members)
	s.members = append(s.members, b)
}

func (s *set) clear() { s.members = s.members[:0] }

// rising tells the members in memory of their own.
func (s *set) rising() []int {
	l := slices.Clone(s.members)
	slices.Sort(l)
	return l
}
