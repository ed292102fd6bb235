package fold_test

import (
	"slices"
	"testing"

	"gantry/api"
	"gantry/compare"
	"gantry/eval"
	. "gantry/hand"
	"gantry/sample"
	"gantry/ssa"
	"gantry/word"
)

// seasoner changes some of a Code's numbers and Args, so that there is much to fold, and not all branches are known: words that rules ask for; one value twice; simple values, OpConsts and arguments of block 0, that may be used wherever a value of their kind may.
type seasoner struct {
	*sample.Turns
	*api.Code
	simple map[int][]int
	often  int
}

func season(t *sample.Turns, u api.Unit) {
	often := 2 + t.Next(9)
	for i := range u.Codes {
		s := seasoner{t, &u.Codes[i], map[int][]int{}, often}
		for _, n := range s.Blocks[0].List {
			if v := s.Values[n]; v.Op == api.OpConst || v.Op == api.OpArg {
				s.simple[v.Kind] = append(s.simple[v.Kind], n)
			}
		}
		s.open()
		for n := range s.Values {
			s.value(&s.Values[n])
		}
	}
}

// open lets some branches hang on what nobody knows, if there is an argument that tells.
func (s seasoner) open() {
	for _, n := range s.Blocks[0].List {
		v := s.Values[n]
		if v.Op != api.OpArg || !isNumber(v.Kind) {
			continue
		}
		other := s.simple[v.Kind][len(s.simple[v.Kind])-1]
		s.Values = append(s.Values, api.Value{Op: api.OpBin, Kind: Yes, N: int64(api.BinEq + s.Next(6)), Args: []int{n, other}})
		first := &s.Blocks[0]
		first.List = slices.Insert(first.List, 1+slices.Index(first.List, other), len(s.Values)-1)
		for b := range s.Blocks {
			if x := &s.Blocks[b]; x.Kind == api.BlockIf && s.Next(4) > 0 {
				x.Args[0] = len(s.Values) - 1
			}
		}
		return
	}
}

// ease lets a simple value stand at that place of a list, now and then.
func (s seasoner) ease(l []int, at int) {
	if may := s.simple[s.Values[l[at]].Kind]; len(may) > 0 && s.Next(s.often) == 0 {
		l[at] = sample.Pick(s.Turns, may)
	}
}

func (s seasoner) value(v *api.Value) {
	switch v.Op {
	case api.OpConst:
		if s.Next(2) == 0 {
			v.N = int64(word.Canon(v.Kind, sample.Pick(s.Turns, []uint64{0, 0, 1, 1, ^uint64(0), 8})))
		}
	case api.OpUn, api.OpBin, api.OpConv, api.OpSel, api.OpPhi, api.OpAddr:
		for i := range v.Args {
			s.ease(v.Args, i)
		}
		if last := len(v.Args) - 1; last > 0 && s.Values[v.Args[last]].Kind == s.Values[v.Args[last-1]].Kind && v.Op != api.OpPhi && s.Next(5) == 0 {
			v.Args[last] = v.Args[last-1]
		}
		if v.Op == api.OpPhi && s.Next(6) == 0 && v.Kind != Mem {
			for i := range v.Args {
				v.Args[i] = v.Args[0]
			}
		}
		if v.Op == api.OpAddr && s.Next(3) == 0 {
			v.N = sample.Pick(s.Turns, []int64{0, 0, api.MaxSize})
		}
	}
}

// given tells a program that is right, in which there is much to fold, and arguments for it.
func given(t *sample.Turns) (api.Unit, []uint64) {
	for {
		u := sample.Unit(t)
		season(t, u)
		if ssa.Check(u) != api.OK {
			continue
		}
		var args []uint64
		for _, k := range u.Codes[0].Params {
			args = append(args, sample.Pick(t, Edges(k)))
		}
		return u, args
	}
}

// TestMany: P17.1, P17.2: many programs, with several fuels each.
func TestMany(t *testing.T) {
	t.Parallel()
	turns := sample.Turns(27)
	var ends [api.EndStuck + 1]int
	rows, still := map[string]int{}, 0
	for range 2500 {
		u, args := given(&turns)
		made := folded(t, "many", u)
		keeps(t, "many", u, made, args, turns.Next(12), 12+turns.Next(100), 100+turns.Next(900))
		r, _ := eval.Run(u, args, 2000)
		ends[r.End]++
		for i, c := range u.Codes {
			l := looker{c}
			for n, v := range c.Values {
				rows[l.row(n, v)]++
			}
			if kindsOf(c)[api.BlockIf] > 0 && kindsOf(made.Codes[i])[api.BlockIf] < kindsOf(c)[api.BlockIf] {
				rows["a branch"]++
			}
			still += compare.Count(made.Codes[i], api.OpPhi) - counted(made.Codes[i], api.OpPhi, Mem)
		}
	}
	if slices.Min(ends[1:]) < 50 || len(rows) < 14 || still < 300 {
		t.Errorf("%d, %v, %d", ends, rows, still)
	}
	for row, many := range rows {
		if many < 10 {
			t.Errorf("%s: %d times", row, many)
		}
	}
}

// TestTwice: P17.1: a second Run behind the first does what the first did.
func TestTwice(t *testing.T) {
	t.Parallel()
	pass.Twice(t, 28, given)
}

// TestNumbers: P17.1: numbers of values that are turned round change nothing.
func TestNumbers(t *testing.T) {
	t.Parallel()
	pass.Turned(t, 29, given)
}

// TestBuilt: P17.1, P17.2: units that package build makes of programs.
func TestBuilt(t *testing.T) {
	t.Parallel()
	if found := pass.Built(t, 30); found < 150 {
		t.Errorf("%d", found)
	}
}

// TestNothingShared: R1, R2: what is handed in is neither changed nor kept; what is told is new; the same call tells the same.
func TestNothingShared(t *testing.T) { pass.NothingShared(t, 31, given) }

// TestListsApart: R2: no two lists of a unit, and of what is made of it, share memory, spare room too.
func TestListsApart(t *testing.T) { pass.ListsApart(t, 32, given) }

// TestEmptyLists: R2: a nil list and an empty one are one.
func TestEmptyLists(t *testing.T) { pass.EmptyLists(t, 33, given) }

// TestAtOnce: R1: calls at once do not know of each other.
func TestAtOnce(t *testing.T) { pass.AtOnce(t, 34, given) }
