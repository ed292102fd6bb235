package edit_test

import (
	"fmt"
	"reflect"
	"slices"
	"testing"

	"gantry/api"
	"gantry/compare"
	"gantry/edit"
	. "gantry/hand"
	"gantry/sample"
	"gantry/ssa"
)

// TestCopied: a copy is the same, in memory of its own.
func TestCopied(t *testing.T) {
	turns := sample.Turns(1)
	for range 200 {
		u := sample.Unit(&turns)
		was := fmt.Sprint(u)
		v := edit.Copied(u)
		if !reflect.DeepEqual(u, v) {
			t.Fatalf("%+v, not %+v", v, u)
		}
		compare.Wipe(v)
		if fmt.Sprint(u) != was {
			t.Fatalf("memory in common: %+v, and before %s", u, was)
		}
		if v = edit.Copied(u); !compare.Apart(u, v) {
			t.Fatalf("memory in common: %+v", v)
		}
	}
}

// TestStands: what stands for a value that stands for another one; what an OpPhi is.
func TestStands(t *testing.T) {
	s := edit.NewStands(7)
	if s.Gone(3) || s.Of(3) != 3 {
		t.Errorf("%d", s)
	}
	s[1], s[2], s[3] = 2, 3, 4
	l := []int{0, 1, 2, 3, 4, 1}
	if s.Put(l); !slices.Equal(l, []int{0, 4, 4, 4, 4, 4}) || !s.Gone(1) || s.Gone(4) {
		t.Errorf("%d, %d", l, s)
	}
	for _, x := range []struct {
		args []int
		one  int
		is   bool
	}{
		{[]int{0}, 0, true}, {[]int{0, 0, 0}, 0, true}, {[]int{6, 0}, 0, true}, {[]int{0, 6, 0, 6}, 0, true}, {[]int{1, 4, 6, 2}, 4, true},
		{[]int{0, 1}, 0, false}, {[]int{6, 1, 0}, 0, false}, {[]int{4, 5}, 0, false},
	} {
		if one, is := s.Single(6, x.args, new(edit.Apart)); one != x.one || is != x.is {
			t.Errorf("%d: %d, %t", x.args, one, is)
		}
	}
}

// TestSingle: an OpPhi is one value, or is not, as its Args become one, or itself, one by one, and Apart is kept.
func TestSingle(t *testing.T) {
	turns := sample.Turns(3)
	found := 0
	for range 2000 {
		const many = 8
		s := edit.NewStands(many)
		var args []int
		for range 1 + turns.Next(12) {
			args = append(args, turns.Next(many))
		}
		n := turns.Next(many)
		var at edit.Apart
		for range 20 {
			others := map[int]int{}
			for _, a := range args {
				if a = s.Of(a); a != n {
					others[a]++
				}
			}
			one, is := s.Single(n, args, &at)
			if is != (len(others) == 1) || is && others[one] == 0 || !is && one != 0 {
				t.Fatalf("%d of %d, with %d: %d, %t", n, args, s, one, is)
			}
			found += len(others) % 2
			if x, y := s.Of(turns.Next(many)), s.Of(turns.Next(many)); x != n {
				s[x] = y
			}
			if turns.Next(2) == 0 {
				args[turns.Next(len(args))] = n
			}
		}
	}
	if found < 5000 {
		t.Errorf("%d", found)
	}
}

// TestSettle: values for which others stand are holes, and are used no more.
func TestSettle(t *testing.T) {
	m := Counter()
	x := m.Add(api.OpUn, I64, api.UnNeg, 5)
	m.Ret(x)
	s := edit.NewStands(len(m.Values))
	s[x], s[3] = 5, 2
	s.Settle(&m.Code)
	if e := ssa.Check(Unit(m)); e != api.OK || m.Values[x].Op != api.OpNone || m.Values[3].Op != api.OpNone || m.Values[8].Args[1] != 2 || m.Blocks[3].Args[0] != 5 {
		t.Errorf("%d: %+v", e, m.Code)
	}
}

// TestOrder: each block stands behind those that dominate it; what block 0 does not reach is not among them.
func TestOrder(t *testing.T) {
	c := Counter().Code
	if l := edit.Order(c.Blocks); !slices.Equal(l, []int{0, 1, 3, 2}) {
		t.Errorf("%d", l)
	}
	c.Blocks[1].Succs[1] = 2
	if l := edit.Order(c.Blocks); !slices.Equal(l, []int{0, 1, 2}) {
		t.Errorf("%d", l)
	}
}

// decided tells a Counter of which the branch is decided, and what is told of it.
func decided(exit int) (api.Code, []int) {
	c := Counter().Code
	lost := edit.Decide(&c, []int{edit.None, exit, edit.None, edit.None})
	edit.Close(&c)
	return c, lost
}

// TestDecide: what is not reached any longer is holes; its OpPhis take less.
func TestDecide(t *testing.T) {
	c, lost := decided(0)
	if e := ssa.Check(api.Unit{Codes: []api.Code{c}}); e != api.OK || len(lost) > 0 || c.Blocks[3].Kind != api.BlockNone || c.Blocks[1].Kind != api.BlockPlain || len(c.Values[4].Args) != 2 {
		t.Errorf("%d, %d: %+v", e, lost, c)
	}
	c, lost = decided(1)
	if e := ssa.Check(api.Unit{Codes: []api.Code{c}}); e != api.OK || !slices.Equal(lost, []int{1}) || c.Blocks[2].Kind != api.BlockNone || c.Values[10].Op != api.OpNone || !slices.Equal(c.Values[4].Args, []int{2}) {
		t.Errorf("%d, %d: %+v", e, lost, c)
	}
	c, lost = decided(edit.None)
	if len(lost) > 0 || !reflect.DeepEqual(c, Counter().Code) {
		t.Errorf("%d: %+v", lost, c)
	}
}

// TestOneBlock: of two ways to one block the one that stays brings what it brought.
func TestOneBlock(t *testing.T) {
	for exit := range 2 {
		m := Begin(Yes, I64, I64)
		m.Branch(1, 1, 1)
		m.Next(0, 0)
		x := m.Phi(I64, 2, 3)
		m.Ret(x)
		lost := edit.Decide(&m.Code, []int{exit, edit.None})
		edit.Close(&m.Code)
		if e := ssa.Check(Unit(m)); e != api.OK || !slices.Equal(lost, []int{1}) || !slices.Equal(m.Values[x].Args, []int{2 + exit}) {
			t.Errorf("%d: %d, %d: %+v", exit, e, lost, m.Code)
		}
	}
}

// someExits tells exits of some of the branches.
func someExits(t *sample.Turns, blocks []api.Block) []int {
	exits := slices.Repeat([]int{edit.None}, len(blocks))
	for b, x := range blocks {
		if x.Kind == api.BlockIf {
			exits[b] = t.Next(3) - 1
		}
	}
	return exits
}

// oneByOne decides branches one behind the other, as far as they are there still.
func oneByOne(t *sample.Turns, c *api.Code, exits []int) {
	for _, b := range t.Shuffled(len(exits)) {
		if c.Blocks[b].Kind == api.BlockIf {
			one := slices.Repeat([]int{edit.None}, len(exits))
			one[b] = exits[b]
			edit.Decide(c, one)
		}
	}
	edit.Close(c)
}

// TestDecideMany: many programs whose branches are decided, some or all, are right; one by one it is the same.
func TestDecideMany(t *testing.T) {
	turns := sample.Turns(2)
	found := 0
	for range 3000 {
		u := sample.Unit(&turns)
		was, other := edit.Copied(u), edit.Copied(u)
		for i := range u.Codes {
			c := &u.Codes[i]
			exits := someExits(&turns, c.Blocks)
			lost := edit.Decide(c, exits)
			found += len(lost)
			edit.Close(c)
			for b, x := range c.Blocks {
				if is := x.Kind != api.BlockNone && len(x.Preds) < len(was.Codes[i].Blocks[b].Preds); is != slices.Contains(lost, b) {
					t.Fatalf("%d, %d: %+v, made of %+v", lost, b, u, was)
				}
				if exits[b] != edit.None && x.Kind == api.BlockIf {
					t.Fatalf("%d: %+v, made of %+v", b, u, was)
				}
			}
			oneByOne(&turns, &other.Codes[i], exits)
		}
		if e := ssa.Check(u); e != api.OK || !reflect.DeepEqual(u, other) {
			t.Fatalf("%d: %+v, one by one %+v, made of %+v", e, u, other, was)
		}
	}
	if found < 500 {
		t.Errorf("%d", found)
	}
}

// TestLost: until Close a way that is lost stays, and OpPhis take themselves by it.
func TestLost(t *testing.T) {
	c := Counter().Code
	edit.Decide(&c, []int{edit.None, 1, edit.None, edit.None})
	if x := c.Blocks[1].Preds; !slices.Equal(x, []int{0, edit.None}) || !slices.Equal(c.Values[4].Args, []int{2, 4}) || !slices.Equal(c.Values[6].Args, []int{0, 6}) {
		t.Errorf("%d: %+v", x, c)
	}
	if l := edit.Phis(&c, 1); !slices.Equal(l, []int{4, 5, 6}) || len(edit.Phis(&c, 0)) > 0 {
		t.Errorf("%d", l)
	}
	edit.Close(&c)
	if x := c.Blocks[1].Preds; !slices.Equal(x, []int{0}) || !slices.Equal(c.Values[4].Args, []int{2}) || !slices.Equal(c.Values[6].Args, []int{0}) {
		t.Errorf("%d: %+v", x, c)
	}
}
