package flow

import (
	"reflect"
	"slices"
	"testing"

	"gantry/api"
	"gantry/sample"
	"gantry/ssa"
)

// pruned tells the Code of these Succs; blocks that block 0 does not reach are holes.
func pruned(succs [][]int) api.Code {
	c := graph(succs...)
	l := slices.Clone(succs)
	for b, seen := range modelReach(c, 0, none) {
		if !seen {
			l[b] = hole
		}
	}
	return graph(l...)
}

// each hands out all Codes of so many blocks.
func each(count int, ask func(api.Code)) {
	may := [][]int{nil}
	for s := 1; s < count; s++ {
		may = append(may, list(s))
		for r := 1; r < count; r++ {
			may = append(may, list(s, r))
		}
	}
	succs := make([][]int, count)
	var fill func(b int)
	fill = func(b int) {
		if b == count {
			ask(pruned(succs))
			return
		}
		for _, l := range may {
			succs[b] = l
			fill(b + 1)
		}
	}
	fill(0)
}

// tangle makes a Code of up to so many blocks; near tells how far most ways go.
func tangle(t *sample.Turns, most int) api.Code {
	succs := make([][]int, 2+t.Next(most-1))
	near := 1 + t.Next(len(succs))
	ends := 1 + t.Next(12)
	for b := range succs {
		to := func() int { return 1 + t.Next(len(succs)-1) }
		if t.Next(8) > 0 {
			to = func() int { return min(max(1, b-near+t.Next(2*near+2)), len(succs)-1) }
		}
		switch {
		case t.Next(ends) == 0 && b > 0:
		case t.Next(3) == 0:
			succs[b] = list(to())
		default:
			succs[b] = list(to(), to())
		}
	}
	return pruned(succs)
}

// agree holds all calls against the model.
func agree(t *testing.T, c api.Code) {
	t.Helper()
	if post, e := Post(c); e != api.OK || !slices.Equal(post, modelPost(c)) {
		t.Fatalf("Post: %d, %d, not %d: %+v", post, e, modelPost(c), c.Blocks)
	}
	if doms, e := Doms(c); e != api.OK || !slices.Equal(doms, modelDoms(c)) {
		t.Fatalf("Doms: %d, %d, not %d: %+v", doms, e, modelDoms(c), c.Blocks)
	}
	if loops, e := Loops(c); e != api.OK || !sameLoops(loops, modelLoops(c)) {
		t.Fatalf("Loops: %v, %d, not %v: %+v", loops, e, modelLoops(c), c.Blocks)
	}
}

// TestEach: P13.1, P13.2: all Codes of few blocks against the model.
func TestEach(t *testing.T) {
	for count := 1; count <= 4; count++ {
		each(count, func(c api.Code) { agree(t, c) })
	}
}

// TestTangles: P13.1, P13.2: Codes of more blocks, deep ones among them, against the model.
func TestTangles(t *testing.T) {
	turns := sample.Turns(13)
	deep := 0
	for range 3000 {
		c := tangle(&turns, 5+turns.Next(25))
		agree(t, c)
		for _, l := range modelLoops(c) {
			deep = max(deep, l.Depth)
		}
	}
	if deep < 4 {
		t.Errorf("%d deep at most", deep)
	}
}

// TestPrograms: P13.1, P13.2: blocks of programs that are right, with values and with Preds in any order.
func TestPrograms(t *testing.T) {
	turns := sample.Turns(31)
	for range 4000 {
		for _, c := range sample.Unit(&turns).Codes {
			agree(t, c)
		}
	}
}

// apart tells whether no block is in both.
func apart(x, y []int) bool {
	return !slices.ContainsFunc(x, func(b int) bool { return slices.Contains(y, b) })
}

// lieRight holds that any two loops are apart, or one lies within the other and has fewer blocks.
func lieRight(t *testing.T, c api.Code) {
	t.Helper()
	l, _ := Loops(c)
	for i, x := range l {
		for _, y := range l[:i] {
			small, great := x, y
			if slices.Contains(x.Body, y.Head) {
				small, great = y, x
			}
			within := slices.Contains(great.Body, small.Head)
			rest := slices.DeleteFunc(slices.Clone(small.Body), func(b int) bool { return slices.Contains(great.Body, b) })
			if within && (len(rest) > 0 || len(small.Body) >= len(great.Body)) || !within && !apart(x.Body, y.Body) {
				t.Fatalf("%v and %v: %+v", x, y, c.Blocks)
			}
		}
	}
}

// TestNeverAsFew: P13.2: the loops around a head lie in one another, so that no two of them have as many blocks.
func TestNeverAsFew(t *testing.T) {
	for count := 1; count <= 4; count++ {
		each(count, func(c api.Code) { lieRight(t, c) })
	}
	turns := sample.Turns(4)
	for range 5000 {
		lieRight(t, tangle(&turns, 40))
	}
}

// renamed tells the Code with other numbers of blocks, but of block 0; those of to are the new ones.
func renamed(c api.Code, to []int) api.Code {
	succs := make([][]int, len(c.Blocks))
	for b, x := range c.Blocks {
		succs[to[b]] = hole
		if x.Kind != api.BlockNone {
			succs[to[b]] = mapped(x.Succs, to)
		}
	}
	return graph(succs...)
}

func mapped(l, to []int) []int {
	l = slices.Clone(l)
	for i, b := range l {
		l[i] = to[b]
	}
	return l
}

// TestNumbers: P13.1, P13.2: other numbers of blocks change nothing but the numbers that are told.
func TestNumbers(t *testing.T) {
	turns := sample.Turns(8)
	for range 2000 {
		c := tangle(&turns, 30)
		to := list(0)
		for _, b := range turns.Shuffled(len(c.Blocks) - 1) {
			to = append(to, b+1)
		}
		d := renamed(c, to)
		post, _ := Post(c)
		if other, _ := Post(d); !slices.Equal(other, mapped(post, to)) {
			t.Fatalf("Post: %d, %d by %d: %+v", post, other, to, c.Blocks)
		}
		doms, _ := Doms(c)
		other, _ := Doms(d)
		for b, a := range doms {
			if a >= 0 && other[to[b]] != to[a] || a < 0 && other[to[b]] != -1 {
				t.Fatalf("Doms: %d, %d by %d: %+v", doms, other, to, c.Blocks)
			}
		}
		agree(t, d)
		l, _ := Loops(c)
		m, _ := Loops(d)
		for _, x := range l {
			if !slices.ContainsFunc(m, func(y api.Loop) bool { return y.Head == to[x.Head] && y.Depth == x.Depth && len(y.Body) == len(x.Body) }) {
				t.Fatalf("Loops: %v, %v by %d: %+v", l, m, to, c.Blocks)
			}
		}
	}
}

// answers is all that is told of a Code.
type answers struct {
	post, doms []int
	loops      []api.Loop
}

func ask(c api.Code) (a answers) {
	a.post, _ = Post(c)
	a.doms, _ = Doms(c)
	a.loops, _ = Loops(c)
	return a
}

// spoil writes into all that was told, and into its spare room.
func (a answers) spoil() {
	lists := [][]int{a.post, a.doms}
	for i, l := range a.loops {
		lists = append(lists, l.Body)
		a.loops[i] = api.Loop{Head: 99}
	}
	for _, l := range lists {
		l = l[:cap(l)]
		for i := range l {
			l[i] = -77
		}
	}
}

// TestKept: P13.1, P13.2: R1, R2: the same call tells the same, what is handed in stays as it was, and no two lists have memory in common.
func TestKept(t *testing.T) {
	turns := sample.Turns(3)
	for range 1000 {
		c := tangle(&turns, 30)
		was := renamed(c, identity(len(c.Blocks)))
		first, again := ask(c), ask(c)
		if !reflect.DeepEqual(first, again) {
			t.Fatalf("not the same twice: %+v", c.Blocks)
		}
		for i := range first.loops {
			body := first.loops[i].Body
			for j := range body[:cap(body)] {
				body[:cap(body)][j] = -77
			}
			again.loops[i].Body = nil
			first.loops[i].Body = nil
			if !reflect.DeepEqual(first, again) {
				t.Fatalf("Body %d is not alone: %+v", i, c.Blocks)
			}
		}
		first.spoil()
		if !reflect.DeepEqual(c, was) {
			t.Fatalf("changed: %+v", was.Blocks)
		}
		agree(t, c)
	}
}

func identity(count int) []int {
	l := make([]int, count)
	for i := range l {
		l[i] = i
	}
	return l
}

// TestBlocksAlone: P13.1, P13.2: values, and what else blocks have, say nothing.
func TestBlocksAlone(t *testing.T) {
	turns := sample.Turns(6)
	for range 500 {
		c := tangle(&turns, 20)
		want := ask(c)
		c.Params, c.Results = list(-1, 99), make([]int, 300)
		c.Values = []api.Value{{Op: -1, Kind: 99, N: -1, M: -1, Args: list(-1, 1<<40)}}
		for b := range c.Blocks {
			c.Blocks[b].N, c.Blocks[b].Args, c.Blocks[b].List = -1, list(-1, 7), list(0, 0, 1<<40)
			c.Blocks[b].Preds = shuffled(&turns, c.Blocks[b].Preds)
		}
		if got := ask(c); !reflect.DeepEqual(got, want) {
			t.Fatalf("%v, not %v: %+v", got, want, c.Blocks)
		}
		if c.Blocks[0].Kind = api.BlockNone; ssa.Flow(c) == api.OK {
			t.Fatalf("no flow, and taken: %+v", c.Blocks)
		}
	}
}

func shuffled(t *sample.Turns, l []int) []int {
	var to []int
	for _, i := range t.Shuffled(len(l)) {
		to = append(to, l[i])
	}
	return to
}
