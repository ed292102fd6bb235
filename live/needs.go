package live

// needs is where one value after the other is needed.
type needs struct {
	*uses
	begin, end set // the blocks at whose beginnings, at whose ends
}

func newNeeds(u *uses) *needs {
	count := len(u.code.Blocks)
	return &needs{uses: u, begin: newSet(count), end: newSet(count)}
}

// grow finds where v is needed: from its uses back to where it is made.
func (n *needs) grow(v int) {
	n.begin.clear()
	n.end.clear()
	enter := func(b int) {
		if b != n.home[v] {
			n.begin.add(b)
		}
	}
	leave := func(b int) {
		n.end.add(b)
		enter(b)
	}
	for _, at := range n.firsts[v] {
		enter(at.block)
	}
	for _, b := range n.ways[v] {
		leave(b)
	}
	for b := range n.begin.each {
		for _, p := range n.code.Blocks[b].Preds {
			leave(p)
		}
	}
}

func begins(u *uses) [][]int {
	n := newNeeds(u)
	return n.blocks(n.begin)
}

func ends(u *uses) [][]int {
	n := newNeeds(u)
	return n.blocks(n.end)
}

// blocks tells of each block the values for which it is in that set. They rise, for values grow one after the other.
func (n *needs) blocks(in set) [][]int {
	return gathered(len(n.code.Blocks), func(tell func(b, v int)) {
		for v := range n.home {
			n.grow(v)
			for b := range in.each {
				tell(b, v)
			}
		}
	})
}
