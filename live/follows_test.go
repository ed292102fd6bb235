package live

import (
	"fmt"
	"reflect"
	"slices"
	"testing"

	"gantry/api"
	"gantry/edit"
	"gantry/flow"
	"gantry/sample"
	"gantry/ssa"
)

// agree holds all calls against the model.
func agree(t *testing.T, u api.Unit) {
	t.Helper()
	for f, c := range u.Codes {
		if l, e := Ins(u, f); e != api.OK || fmt.Sprint(l) != fmt.Sprint(modelIns(c)) {
			t.Fatalf("Ins: %d, %d, not %d: %+v", l, e, modelIns(c), c)
		}
		outs, far := modelOuts(c)
		if l, e := Outs(u, f); e != api.OK || fmt.Sprint(l) != fmt.Sprint(outs) {
			t.Fatalf("Outs: %d, %d, not %d: %+v", l, e, outs, c)
		}
		if l, e := Far(u, f); e != api.OK || fmt.Sprint(l) != fmt.Sprint(far) {
			t.Fatalf("Far: %v, %d, not %v: %+v", l, e, far, c)
		}
	}
}

// shaped tells a Code of blocks with these Succs, in which nothing is used but memory and a branch's flag: block 0 has the values 0 to 2, others have none to four. Blocks that are not reached are holes.
func shaped(succs [][]int) api.Code {
	c := api.Code{Values: values{begin, flag, num}, Blocks: make([]api.Block, len(succs))}
	seen := make([]bool, len(succs))
	var visit func(b int)
	visit = func(b int) {
		if seen[b] {
			return
		}
		seen[b] = true
		x := &c.Blocks[b]
		switch x.Succs = slices.Clone(succs[b]); len(x.Succs) {
		case 0:
			x.Kind, x.Args = api.BlockRet, list(0)
		case 1:
			x.Kind = api.BlockPlain
		case 2:
			x.Kind, x.Args = api.BlockIf, list(1)
		}
		for _, s := range x.Succs {
			c.Blocks[s].Preds = append(c.Blocks[s].Preds, b)
			visit(s)
		}
	}
	visit(0)
	c.Blocks[0].List = list(0, 1, 2)
	for b := 1; b < len(succs); b++ {
		for range b % 5 {
			if seen[b] {
				lay(&c, b, num)
			}
		}
	}
	return c
}

// lay lays a value behind all others of a block, an OpPhi ahead of them.
func lay(c *api.Code, b int, v api.Value) int {
	n := len(c.Values)
	c.Values = append(c.Values, v)
	if x := &c.Blocks[b]; v.Op == api.OpPhi {
		x.List = append(list(n), x.List...)
	} else {
		x.List = append(x.List, n)
	}
	return n
}

// each hands out all Succs of so many blocks.
func each(count int, ask func(succs [][]int)) {
	may := [][]int{nil}
	for s := 1; s < count; s++ {
		may = append(may, list(s))
		for r := 1; r < count; r++ {
			may = append(may, list(s, r))
		}
	}
	succs := make([][]int, count)
	var fill func(b int)
	fill = func(b int) {
		if b == count {
			ask(succs)
			return
		}
		for _, l := range may {
			succs[b] = l
			fill(b + 1)
		}
	}
	fill(0)
}

// once tells the shape with a value in one block that is used once in another one: there, or, if way is not below 0, by an OpPhi for that way. False: no such program is right.
func once(succs [][]int, home, user, way int) (api.Unit, bool) {
	c := shaped(succs)
	x := c.Blocks[user]
	if c.Blocks[home].Kind == api.BlockNone || x.Kind == api.BlockNone || way >= len(x.Preds) {
		return api.Unit{}, false
	}
	v := lay(&c, home, num)
	if way < 0 {
		lay(&c, user, neg(v))
	} else {
		args := slices.Repeat(list(2), len(x.Preds))
		args[way] = v
		lay(&c, user, phi(args...))
	}
	u := api.Unit{Codes: []api.Code{c}}
	return u, ssa.Check(u) == api.OK
}

// TestEach: P14.1, P14.2: all shapes of few blocks, and in them a value in each block that is used once in each that may, against the model.
func TestEach(t *testing.T) {
	held := 0
	for count := 1; count <= 3; count++ {
		each(count, func(succs [][]int) {
			for home := range count {
				for user := range count {
					for way := -1; way < 2*count; way++ {
						if u, right := once(succs, home, user, way); right {
							agree(t, u)
							held++
						}
					}
				}
			}
		})
	}
	if held < 3000 {
		t.Errorf("%d programs: too few", held)
	}
}

// TestFour: P14.1, P14.2: all shapes of four blocks, and in each some value that is used once.
func TestFour(t *testing.T) {
	turns := sample.Turns(4)
	held := 0
	each(4, func(succs [][]int) {
		if u, right := once(succs, turns.Next(4), turns.Next(4), turns.Next(4)-1); right {
			agree(t, u)
			held++
		}
	})
	if held < 3000 {
		t.Errorf("%d programs: too few", held)
	}
}

// tangle makes a program of one Code with up to so many blocks; near tells how far most ways go. Its values use those that stand above them.
func tangle(t *sample.Turns, most int) api.Unit {
	succs := make([][]int, 2+t.Next(most-1))
	near, ends := 1+t.Next(len(succs)), 1+t.Next(12)
	for b := range succs {
		to := func() int { return 1 + t.Next(len(succs)-1) }
		if t.Next(8) > 0 {
			to = func() int { return min(max(1, b-near+t.Next(2*near+2)), len(succs)-1) }
		}
		switch {
		case t.Next(ends) == 0 && b > 0:
		case t.Next(3) == 0:
			succs[b] = list(to())
		default:
			succs[b] = list(to(), to())
		}
	}
	c := shaped(succs)
	doms, _ := flow.Doms(c)
	for b, x := range c.Blocks {
		for range t.Next(3) {
			if x.Kind != api.BlockNone {
				lay(&c, b, num)
			}
		}
	}
	for range len(succs) {
		if b := t.Next(len(succs)); c.Blocks[b].Kind != api.BlockNone {
			knit(t, &c, doms, b)
		}
	}
	return api.Unit{Codes: []api.Code{c}}
}

// knit lays a value into a block that uses others, or an OpPhi.
func knit(t *sample.Turns, c *api.Code, doms []int, b int) {
	if b == 0 || t.Next(3) > 0 {
		lay(c, b, add(above(t, c, doms, b), above(t, c, doms, b)))
		return
	}
	var args []int
	for _, p := range c.Blocks[b].Preds {
		args = append(args, above(t, c, doms, p))
	}
	lay(c, b, phi(args...))
}

// above tells a number that is there at the end of a block.
func above(t *sample.Turns, c *api.Code, doms []int, b int) int {
	var may []int
	for ; b != -1; b = doms[b] {
		for _, v := range c.Blocks[b].List {
			if c.Values[v].Kind == api.KindI64 {
				may = append(may, v)
			}
		}
	}
	return sample.Pick(t, may)
}

// TestTangles: P14.1, P14.2: Codes of more blocks against the model; uses that are far away among them.
func TestTangles(t *testing.T) {
	turns := sample.Turns(14)
	most := 0
	for range 1000 {
		u := tangle(&turns, 5+turns.Next(25))
		agree(t, u)
		_, far := modelOuts(u.Codes[0])
		for _, l := range far {
			for _, x := range l {
				most = max(most, x.Far)
			}
		}
	}
	if most < 30 {
		t.Errorf("%d far at most", most)
	}
}

// TestPrograms: P14.1, P14.2: programs with all kinds of values, blocks, holes.
func TestPrograms(t *testing.T) {
	turns := sample.Turns(41)
	for range 2000 {
		agree(t, sample.Unit(&turns))
	}
}

// answers is all that is told of a function.
type answers struct {
	ins, outs [][]int
	far       [][]api.Next
}

func ask(u api.Unit, f int) (a answers) {
	a.ins, _ = Ins(u, f)
	a.outs, _ = Outs(u, f)
	a.far, _ = Far(u, f)
	return a
}

// TestOutsAndFar: P14.1, P14.2: Far tells of the values of Outs.
func TestOutsAndFar(t *testing.T) {
	turns := sample.Turns(2)
	for range 1000 {
		u := sample.Unit(&turns)
		a := ask(u, 0)
		for b, l := range a.far {
			var told []int
			for _, x := range l {
				told = append(told, x.Value)
			}
			if !slices.Equal(told, a.outs[b]) {
				t.Fatalf("%v, not %v", a.far, a.outs)
			}
		}
	}
}

// wipe writes into a list, its spare room too.
func wipe[T any](l []T, x T) {
	l = l[:cap(l)]
	for i := range l {
		l[i] = x
	}
}

// apart holds that no list of an answer has memory in common with another one: each is written over, and then as empty as it is in a second answer.
func apart[T any](t *testing.T, one, two [][]T, x T) {
	t.Helper()
	for b := range one {
		wipe(one[b], x)
		one[b], two[b] = nil, nil
		if !reflect.DeepEqual(one, two) {
			t.Fatalf("list %d is not alone", b)
		}
	}
	wipe(one, []T{x})
}

// TestKept: P14.1, P14.2: R1, R2: the same call tells the same, what is handed in stays as it was, and no two lists have memory in common.
func TestKept(t *testing.T) {
	turns := sample.Turns(3)
	for range 500 {
		u := sample.Unit(&turns)
		was := edit.Copied(u)
		f := turns.Next(len(u.Codes))
		one, two := ask(u, f), ask(u, f)
		if !reflect.DeepEqual(one, two) {
			t.Fatalf("not the same twice: %+v", u)
		}
		apart(t, one.ins, two.ins, -77)
		apart(t, one.outs, two.outs, -77)
		apart(t, one.far, two.far, api.Next{Value: -77})
		if !reflect.DeepEqual(edit.Copied(u), was) {
			t.Fatalf("changed: %+v", was)
		}
		agree(t, u)
	}
}

// roomy tells the list with spare room behind it, in which there is -77.
func roomy(l []int) []int {
	return append(slices.Clone(l), -77, -77)[:len(l)]
}

func touched(l []int) bool {
	return slices.ContainsFunc(l[len(l):cap(l)][:2], func(x int) bool { return x != -77 })
}

// TestRoom: P14.1, P14.2: R2: the spare room of what is handed in stays as it was, and says nothing.
func TestRoom(t *testing.T) {
	turns := sample.Turns(5)
	for range 300 {
		u := sample.Unit(&turns)
		want := ask(u, 0)
		var lists [][]int
		for _, c := range u.Codes {
			for n := range c.Values {
				c.Values[n].Args = roomy(c.Values[n].Args)
				lists = append(lists, c.Values[n].Args)
			}
			for b := range c.Blocks {
				x := &c.Blocks[b]
				x.Args, x.Preds, x.Succs, x.List = roomy(x.Args), roomy(x.Preds), roomy(x.Succs), roomy(x.List)
				lists = append(lists, x.Args, x.Preds, x.Succs, x.List)
			}
		}
		if !reflect.DeepEqual(ask(u, 0), want) || slices.ContainsFunc(lists, touched) {
			t.Fatalf("%+v", u)
		}
	}
}

// turned tells the Code with Preds of all blocks, and what OpPhis take, the other way round.
func turned(c api.Code) {
	for _, x := range c.Blocks {
		slices.Reverse(x.Preds)
		for _, n := range x.List {
			if c.Values[n].Op == api.OpPhi {
				slices.Reverse(c.Values[n].Args)
			}
		}
	}
}

// TestSame: P14.1, P14.2: the order of Preds, of Succs, data and other functions say nothing.
func TestSame(t *testing.T) {
	turns := sample.Turns(6)
	for range 500 {
		u := sample.Unit(&turns)
		want := ask(u, 0)
		for _, c := range u.Codes {
			turned(c)
			for _, x := range c.Blocks {
				slices.Reverse(x.Succs)
			}
		}
		u.Data = append(u.Data, 1, 2, 3)
		u.Codes = append(u.Codes, code(values{begin}, ret(list(0), 0)))
		if e := ssa.Check(u); e != api.OK {
			t.Fatalf("not right: %d", e)
		}
		if got := ask(u, 0); !reflect.DeepEqual(got, want) {
			t.Fatalf("%v, not %v: %+v", got, want, u.Codes[0])
		}
	}
}
