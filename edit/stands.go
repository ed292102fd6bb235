package edit

import (
	"slices"

	"gantry/api"
)

// Stands is which value stands for each one.
type Stands []int

// NewStands: each value stands for itself.
func NewStands(many int) Stands {
	s := make(Stands, many)
	for n := range s {
		s[n] = n
	}
	return s
}

// Of tells the value that stands for n in the end, and lets those on the way know.
func (s Stands) Of(n int) int {
	for s[n] != n {
		s[n] = s[s[n]]
		n = s[n]
	}
	return n
}

// Gone tells whether another value stands for n.
func (s Stands) Gone(n int) bool { return s[n] != n }

// Put lays into a list what stands for its values.
func (s Stands) Put(list []int) {
	for i, n := range list {
		list[i] = s.Of(n)
	}
}

// Apart is where the first two of an OpPhi's Args stand that are neither one value nor itself. What is one value stays one, so that these go forwards alone, however often they are looked for.
type Apart struct{ one, other int }

// Single tells the one value that an OpPhi n of these Args is, if it is not itself; false, if there are several.
func (s Stands) Single(n int, args []int, at *Apart) (int, bool) {
	for at.one < len(args) && s.Of(args[at.one]) == n {
		at.one++
	}
	if at.one == len(args) {
		return 0, false
	}
	told := s.Of(args[at.one])
	for at.other = max(at.other, at.one+1); at.other < len(args); at.other++ {
		if x := s.Of(args[at.other]); x != told && x != n {
			return 0, false
		}
	}
	return told, true
}

// Settle lays what stands for values into all lists of a Code, which must be memory of its own; where those were for which others stand, there are holes.
func (s Stands) Settle(c *api.Code) {
	for n := range c.Values {
		if s.Gone(n) {
			c.Values[n] = api.Value{}
		}
		s.Put(c.Values[n].Args)
	}
	for b := range c.Blocks {
		x := &c.Blocks[b]
		s.Put(x.Args)
		x.List = slices.DeleteFunc(x.List, s.Gone)
	}
}
