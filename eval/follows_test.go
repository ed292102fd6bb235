package eval_test

import (
	"reflect"
	"slices"
	"testing"

	"gantry/api"
	"gantry/compare"
	"gantry/edit"
	"gantry/eval"
	. "gantry/hand"
	"gantry/sample"
	"gantry/word"
)

// given tells a program that is right, and args that the Code 0 may have.
func given(t *sample.Turns) (api.Unit, []uint64) {
	u := sample.Unit(t)
	var args []uint64
	for _, k := range u.Codes[0].Params {
		x := uint64(t.Next(9))
		if t.Next(3) == 0 {
			x = -x
		}
		args = append(args, word.Canon(k, x))
	}
	return u, args
}

// TestModel: P15.1: many programs do what a second, plain model of the chapter does.
func TestModel(t *testing.T) {
	turns := sample.Turns(15)
	var ends [api.EndStuck + 1]int
	var ops [api.OpAddr + 1]int
	calls, away := 0, 0
	for range 10000 {
		u, args := given(&turns)
		fuel := 1 + turns.Next(400)
		m := newModel(u, fuel)
		want := m.all(slices.Clone(args))
		got, e := eval.Run(u, args, fuel)
		if e != api.OK || !compare.Same(got, want) {
			t.Fatalf("%+v, %d: %+v, %d, not %+v", u, args, got, e, want)
		}
		ends[got.End]++
		for i, n := range m.ops {
			ops[i] += n
		}
		for _, c := range got.Calls {
			calls++
			if !c.Back {
				away++
			}
		}
	}
	if slices.Min(ends[1:]) < 50 || slices.Min(ops[1:]) < 300 || calls-away < 2000 || away < 1000 {
		t.Errorf("%d, %d, %d calls, %d away", ends, ops, calls, away)
	}
}

// goesOn tells whether more is what less may become with more fuel.
func goesOn(less, more api.Run) bool {
	if less.End != api.EndFuel {
		return compare.Same(less, more)
	}
	if len(less.Trace) > len(more.Trace) || !slices.Equal(less.Trace, more.Trace[:len(less.Trace)]) || len(less.Calls) > len(more.Calls) {
		return false
	}
	for i, c := range less.Calls {
		d := more.Calls[i]
		if !c.Back {
			d.Back, d.Results = false, nil
		}
		if !compare.SameCall(c, d) {
			return false
		}
	}
	return true
}

// holdFuel holds P15.2 for one program.
func holdFuel(t *testing.T, u api.Unit, args []uint64, fuels []int) {
	t.Helper()
	var less api.Run
	for i, fuel := range fuels {
		r, e := eval.Run(u, args, fuel)
		if e != api.OK || r.Steps > fuel || r.End == api.EndNone || r.End == api.EndFuel && (r.Steps != fuel || r.N != 0) {
			t.Fatalf("%+v, %d, fuel %d: %+v, %d", u, args, fuel, r, e)
		}
		if i > 0 && !goesOn(less, r) {
			t.Fatalf("%+v, %d, fuel %d: %+v, and with less %+v", u, args, fuel, r, less)
		}
		less = r
	}
}

// upTo tells numbers from 0 on, and then some, in order.
func upTo(n int, more ...int) (l []int) {
	for i := range n {
		l = append(l, i)
	}
	return append(l, more...)
}

// TestMoreFuel: P15.2: more fuel goes on where less ended, and what has ended stays.
func TestMoreFuel(t *testing.T) {
	greatest0 := Begin(U64, U64)
	greatest0.Ret(greatest0.Conv(I64, greatest0.Result(U64, greatest0.Call(1, 1, 2), 0)))
	for _, x := range []struct {
		u    api.Unit
		args []uint64
	}{
		{Unit(three()), nil}, {Unit(Counter()), words(20)}, {Unit(Counter()), words(1 << 40)}, {Unit(deep(0)), words(30)}, {Unit(deep(0)), words(1 << 40)}, {Unit(greatest0, greatest(1)), words(610, 377)},
	} {
		holdFuel(t, x.u, x.args, upTo(200, 201, 300, 500, 1000, 5000, 8191, 8192, 8193, 100000, api.MaxFuel-1, api.MaxFuel))
	}
	turns := sample.Turns(7)
	for range 150 {
		u, args := given(&turns)
		holdFuel(t, u, args, upTo(80, 81, 90, 120, 200, 500, 5000))
	}
}

// TestJustEnough: a run that ends otherwise than by EndFuel does so with as much fuel as it has used, and not with one less.
func TestJustEnough(t *testing.T) {
	turns := sample.Turns(8)
	many := 0
	for range 1500 {
		u, args := given(&turns)
		r, e := eval.Run(u, args, 2000)
		if e != api.OK || r.End == api.EndFuel {
			continue
		}
		many++
		enough, _ := eval.Run(u, args, r.Steps)
		less, _ := eval.Run(u, args, r.Steps-1)
		if !compare.Same(enough, r) || less.End != api.EndFuel || less.Steps != r.Steps-1 || !goesOn(less, r) {
			t.Fatalf("%+v, %d: %+v, %+v, %+v", u, args, r, enough, less)
		}
	}
	if many < 800 {
		t.Errorf("%d", many)
	}
}

// wipe writes into a list, its spare room too.
func wipe[T any](l []T, x T) {
	l = l[:cap(l)]
	for i := range l {
		l[i] = x
	}
}

// plain tells the run in memory of its own.
func plain(r api.Run) api.Run {
	r.Trace, r.Calls = slices.Clone(r.Trace), slices.Clone(r.Calls)
	for i := range r.Calls {
		c := &r.Calls[i]
		c.Args, c.Results = slices.Clone(c.Args), slices.Clone(c.Results)
	}
	return r
}

// TestKept: R1, R2: the same call tells the same, whatever was written into what it told; what is handed in is neither changed nor kept.
func TestKept(t *testing.T) {
	turns := sample.Turns(9)
	for range 300 {
		u, args := given(&turns)
		was, with := edit.Copied(u), slices.Clone(args)
		one, _ := eval.Run(u, args, 300)
		first := plain(one)
		wipe(one.Trace, 77)
		for _, c := range one.Calls {
			wipe(c.Args, 77)
			wipe(c.Results, 77)
		}
		wipe(one.Calls, api.Call{Func: 77})
		two, e := eval.Run(u, args, 300)
		if e != api.OK || !compare.Same(two, first) {
			t.Fatalf("%+v, %d: %+v, and before %+v", u, args, two, first)
		}
		if !reflect.DeepEqual(edit.Copied(u), was) || !slices.Equal(args, with) {
			t.Fatalf("what was handed in was changed: %+v", was)
		}
		wipe(args, 77)
		wipe(u.Data, 77)
		for _, c := range u.Codes {
			wipe(c.Values, api.Value{})
			wipe(c.Blocks, api.Block{})
		}
		if !compare.Same(two, first) {
			t.Fatalf("what was handed in is kept: %+v", was)
		}
	}
}

// TestListsApart: R2: no two lists of one answer have memory in common, spare room too.
func TestListsApart(t *testing.T) {
	turns := sample.Turns(10)
	for range 200 {
		u, args := given(&turns)
		r, _ := eval.Run(u, args, 300)
		want := plain(r)
		lists := []*[]uint64{&r.Trace}
		for i := range r.Calls {
			lists = append(lists, &r.Calls[i].Args, &r.Calls[i].Results)
		}
		for _, l := range lists {
			kept := slices.Clone(*l)
			wipe(*l, 77)
			*l = kept
			if !compare.Same(r, want) {
				t.Fatalf("lists share memory: %+v", want)
			}
		}
	}
}

// roomy tells the list with spare room behind it, in which there is x.
func roomy[T any](l []T, x T) []T { return append(slices.Clone(l), x, x)[:len(l)] }

// TestRoom: R2: the spare room of what is handed in stays as it was, and says nothing; nor does it that a list is nil or empty.
func TestRoom(t *testing.T) {
	turns := sample.Turns(11)
	for range 300 {
		u, args := given(&turns)
		want, _ := eval.Run(u, args, 300)
		args, u.Data = roomy(args, 77), roomy(u.Data, 77)
		lists := [][]int{}
		for _, c := range u.Codes {
			for n := range c.Values {
				v := &c.Values[n]
				v.Args = roomy(v.Args, -77)
				lists = append(lists, v.Args)
			}
			for b := range c.Blocks {
				x := &c.Blocks[b]
				x.Args, x.Preds, x.Succs, x.List = roomy(x.Args, -77), roomy(x.Preds, -77), roomy(x.Succs, -77), roomy(x.List, -77)
				lists = append(lists, x.Args, x.Preds, x.Succs, x.List)
			}
		}
		if r, e := eval.Run(u, args, 300); e != api.OK || !compare.Same(r, want) {
			t.Fatalf("%+v, not %+v", r, want)
		}
		for _, l := range lists {
			if spare := l[len(l):cap(l)]; spare[0] != -77 || spare[1] != -77 {
				t.Fatalf("%d", spare)
			}
		}
		if args[:len(args)+1][len(args)] != 77 || u.Data[:len(u.Data)+1][len(u.Data)] != 77 {
			t.Fatalf("spare room was changed")
		}
	}
}

// TestRunsAtOnce: R1: runs have nothing in common, though they run at the same time.
func TestRunsAtOnce(t *testing.T) {
	turns := sample.Turns(12)
	for range 40 {
		u, args := given(&turns)
		want, _ := eval.Run(u, args, 500)
		told := make(chan api.Run)
		for range 4 {
			go func() {
				r, _ := eval.Run(u, args, 500)
				told <- r
			}()
		}
		for range 4 {
			if r := <-told; !compare.Same(r, want) {
				t.Errorf("%+v, not %+v", r, want)
			}
		}
	}
}
