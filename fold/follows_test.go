package fold_test

import (
	"reflect"
	"slices"
	"sync"
	"testing"

	"gantry/api"
	"gantry/build"
	"gantry/compare"
	"gantry/draft"
	"gantry/edit"
	"gantry/eval"
	"gantry/fold"
	. "gantry/hand"
	"gantry/sample"
	"gantry/ssa"
	"gantry/word"
)

// seasoner changes some of a Code's numbers and Args, so that there is much to fold, and not all branches are known: words that rules ask for; one value twice; simple values, OpConsts and arguments of block 0, that may be used wherever a value of their kind may.
type seasoner struct {
	*sample.Turns
	*api.Code
	simple map[int][]int
	often  int
}

func season(t *sample.Turns, u api.Unit) {
	often := 2 + t.Next(9)
	for i := range u.Codes {
		s := seasoner{t, &u.Codes[i], map[int][]int{}, often}
		for _, n := range s.Blocks[0].List {
			if v := s.Values[n]; v.Op == api.OpConst || v.Op == api.OpArg {
				s.simple[v.Kind] = append(s.simple[v.Kind], n)
			}
		}
		s.open()
		for n := range s.Values {
			s.value(&s.Values[n])
		}
	}
}

// open lets some branches hang on what nobody knows, if there is an argument that tells.
func (s seasoner) open() {
	for _, n := range s.Blocks[0].List {
		v := s.Values[n]
		if v.Op != api.OpArg || !isNumber(v.Kind) {
			continue
		}
		other := s.simple[v.Kind][len(s.simple[v.Kind])-1]
		s.Values = append(s.Values, api.Value{Op: api.OpBin, Kind: Yes, N: int64(api.BinEq + s.Next(6)), Args: []int{n, other}})
		first := &s.Blocks[0]
		first.List = slices.Insert(first.List, 1+slices.Index(first.List, other), len(s.Values)-1)
		for b := range s.Blocks {
			if x := &s.Blocks[b]; x.Kind == api.BlockIf && s.Next(4) > 0 {
				x.Args[0] = len(s.Values) - 1
			}
		}
		return
	}
}

// ease lets a simple value stand at that place of a list, now and then.
func (s seasoner) ease(l []int, at int) {
	if may := s.simple[s.Values[l[at]].Kind]; len(may) > 0 && s.Next(s.often) == 0 {
		l[at] = sample.Pick(s.Turns, may)
	}
}

func (s seasoner) value(v *api.Value) {
	switch v.Op {
	case api.OpConst:
		if s.Next(2) == 0 {
			v.N = int64(word.Canon(v.Kind, sample.Pick(s.Turns, []uint64{0, 0, 1, 1, ^uint64(0), 8})))
		}
	case api.OpUn, api.OpBin, api.OpConv, api.OpSel, api.OpPhi, api.OpAddr:
		for i := range v.Args {
			s.ease(v.Args, i)
		}
		if last := len(v.Args) - 1; last > 0 && s.Values[v.Args[last]].Kind == s.Values[v.Args[last-1]].Kind && v.Op != api.OpPhi && s.Next(5) == 0 {
			v.Args[last] = v.Args[last-1]
		}
		if v.Op == api.OpPhi && s.Next(6) == 0 && v.Kind != Mem {
			for i := range v.Args {
				v.Args[i] = v.Args[0]
			}
		}
		if v.Op == api.OpAddr && s.Next(3) == 0 {
			v.N = sample.Pick(s.Turns, []int64{0, 0, api.MaxSize})
		}
	}
}

// given tells a program that is right, in which there is much to fold, and arguments for it.
func given(t *sample.Turns) (api.Unit, []uint64) {
	for {
		u := sample.Unit(t)
		season(t, u)
		if ssa.Check(u) != api.OK {
			continue
		}
		var args []uint64
		for _, k := range u.Codes[0].Params {
			args = append(args, sample.Pick(t, Edges(k)))
		}
		return u, args
	}
}

// TestMany: P17.1, P17.2: many programs, with several fuels each.
func TestMany(t *testing.T) {
	t.Parallel()
	turns := sample.Turns(27)
	var ends [api.EndStuck + 1]int
	rows, still := map[string]int{}, 0
	for range 2500 {
		u, args := given(&turns)
		made := folded(t, "many", u)
		keeps(t, "many", u, made, args, turns.Next(12), 12+turns.Next(100), 100+turns.Next(900))
		r, _ := eval.Run(u, args, 2000)
		ends[r.End]++
		for i, c := range u.Codes {
			l := looker{c}
			for n, v := range c.Values {
				rows[l.row(n, v)]++
			}
			if kindsOf(c)[api.BlockIf] > 0 && kindsOf(made.Codes[i])[api.BlockIf] < kindsOf(c)[api.BlockIf] {
				rows["a branch"]++
			}
			still += compare.Count(made.Codes[i], api.OpPhi) - counted(made.Codes[i], api.OpPhi, Mem)
		}
	}
	if slices.Min(ends[1:]) < 50 || len(rows) < 14 || still < 300 {
		t.Errorf("%d, %v, %d", ends, rows, still)
	}
	for row, many := range rows {
		if many < 10 {
			t.Errorf("%s: %d times", row, many)
		}
	}
}

// TestTwice: P17.1: a second Run behind the first does what the first did.
func TestTwice(t *testing.T) {
	t.Parallel()
	turns := sample.Turns(28)
	for range 800 {
		u, args := given(&turns)
		again := folded(t, "again", folded(t, "once", u))
		keeps(t, "again", u, again, args, turns.Next(60))
	}
}

// TestNumbers: P17.1: numbers of values that are turned round change nothing.
func TestNumbers(t *testing.T) {
	t.Parallel()
	turns := sample.Turns(29)
	for range 800 {
		u, args := given(&turns)
		keeps(t, "turned round", u, folded(t, "turned round", back(u)), args, turns.Next(60))
	}
}

// TestBuilt: P17.1, P17.2: units that package build makes of programs.
func TestBuilt(t *testing.T) {
	t.Parallel()
	turns := sample.Turns(30)
	var ends [api.EndStuck + 1]int
	found := 0
	for range 300 {
		p, args := draft.Any(&turns)
		u, e := build.Build(p)
		if e != api.OK {
			t.Fatalf("%d: %+v", e, p)
		}
		if left(u.Codes[0]) != "" {
			found++
		}
		made := hold(t, "built", u, args)
		r, _ := eval.Run(made, args, 5000)
		ends[r.End]++
	}
	if slices.Min(ends[api.EndExit:api.EndStuck]) < 3 || ends[api.EndStuck] > 0 || found < 150 {
		t.Errorf("%d, %d", ends, found)
	}
	for _, p := range []api.Program{draft.Primes(), draft.Divided(), draft.Chain(), draft.Down()} {
		u, _ := build.Build(p)
		for _, args := range [][]uint64{{0, 0}, {1, 3}, {6, 4}, {8, 0}, {100, 30}} {
			hold(t, "a program", u, args[:len(u.Codes[0].Params)])
		}
	}
}

// TestNothingShared: R1, R2: what is handed in is neither changed nor kept; what is told is new; the same call tells the same.
func TestNothingShared(t *testing.T) {
	turns := sample.Turns(31)
	for range 300 {
		u, _ := given(&turns)
		was := edit.Copied(u)
		one, _ := fold.Run(u)
		first := edit.Copied(one)
		if !reflect.DeepEqual(edit.Copied(u), was) {
			t.Fatalf("what is handed in is changed: %+v", was)
		}
		compare.Wipe(one)
		two, e := fold.Run(u)
		if e != api.OK || !reflect.DeepEqual(edit.Copied(two), first) || !reflect.DeepEqual(edit.Copied(u), was) {
			t.Fatalf("what is told is kept: %+v", was)
		}
		compare.Wipe(u)
		if !reflect.DeepEqual(edit.Copied(two), first) {
			t.Fatalf("what is handed in is kept: %+v", was)
		}
	}
}

// TestListsApart: R2: no two lists of a unit, and of what is made of it, share memory, spare room too.
func TestListsApart(t *testing.T) {
	turns := sample.Turns(32)
	for range 200 {
		u, _ := given(&turns)
		one, _ := fold.Run(u)
		two, _ := fold.Run(u)
		if !compare.Apart(edit.Copied(u), one, two) {
			t.Fatalf("lists share memory: %+v", u)
		}
		u, _ = given(&turns)
		one, _ = fold.Run(u)
		if !compare.Apart(u, one) {
			t.Fatalf("lists share memory with what is handed in: %+v", one)
		}
	}
}

// TestEmptyLists: R2: a nil list and an empty one are one.
func TestEmptyLists(t *testing.T) {
	filled := func(l []int) []int {
		if l == nil {
			return []int{}
		}
		return l
	}
	turns := sample.Turns(33)
	for range 200 {
		u, args := given(&turns)
		v := edit.Copied(u)
		v.Data = append([]byte{}, v.Data...)
		for i := range v.Codes {
			c := &v.Codes[i]
			c.Params, c.Results = filled(c.Params), filled(c.Results)
			for n := range c.Values {
				c.Values[n].Args = filled(c.Values[n].Args)
			}
			for b := range c.Blocks {
				x := &c.Blocks[b]
				x.Args, x.Preds, x.Succs, x.List = filled(x.Args), filled(x.Preds), filled(x.Succs), filled(x.List)
			}
		}
		keeps(t, "empty lists", u, folded(t, "empty lists", v), args)
	}
}

// TestAtOnce: R1: calls at once do not know of each other.
func TestAtOnce(t *testing.T) {
	turns := sample.Turns(34)
	u, _ := given(&turns)
	want, _ := fold.Run(u)
	var all sync.WaitGroup
	for range 8 {
		all.Go(func() {
			for range 50 {
				if made, e := fold.Run(u); e != api.OK || !reflect.DeepEqual(made, want) {
					t.Errorf("another unit")
				}
			}
		})
	}
	all.Wait()
}
