package source_test

import (
	"reflect"
	"slices"
	"testing"

	"gantry/api"
	. "gantry/draft"
	"gantry/sample"
	"gantry/source"
)

// TestModel: P10.1: many programs do what a second, plain model of the chapter does.
func TestModel(t *testing.T) {
	s := sample.Turns(10)
	var ends [api.EndStuck + 1]int
	var kinds [api.PanicUser + 1]int
	var terms [api.ExprMake + 1]int
	var stmts [api.StmtCall + 1]int
	for range 2000 {
		p, args := Any(&s)
		fuel := 20 + s.Next(600)
		m := newModel(p, fuel)
		want := m.all(args)
		got, e := source.Run(p, args, fuel)
		if e != api.OK || !same(got, want) {
			t.Fatalf("%+v, %d: %+v, %d, not %+v", p, args, got, e, want)
		}
		ends[got.End]++
		if got.End == api.EndPanic {
			kinds[min(got.N, api.PanicUser)]++
		}
		for i, n := range m.terms {
			terms[i] += n
		}
		for i, n := range m.stmts {
			stmts[i] += n
		}
	}
	seen := slices.Concat(ends[api.EndExit:api.EndStuck], kinds[1:], terms[1:], stmts[1:])
	if slices.Min(seen) < 3 || ends[api.EndStuck] > 0 {
		t.Errorf("%d, %d, %d, %d", ends, kinds, terms, stmts)
	}
}

// literal are programs that are written out, and what they are given.
func literal() (programs []api.Program, args [][]uint64) {
	endless := Alone([]int{I64}, Loop(Emit(Loc(0)), Set(0, Bin(api.BinAdd, Loc(0), Num(1)))))
	full := Alone([]int{List, I64}, Loop(Set(0, Row(List, Num(1000))), Emit(Length(Loc(0)))))
	programs = []api.Program{Primes(), Primes(), Divided(), Divided(), Chain(), Chain(), Down(), Down(), endless, full}
	args = [][]uint64{{30}, {minus(1)}, {30, 12}, {3, 0}, {8}, {9}, {20}, {1024}, {}, {}}
	return programs, args
}

// holdFuel holds P10.2 for one program: with more fuel a run's trace and calls go on from those of less, and what has ended otherwise than by EndFuel stays as it was.
func holdFuel(t *testing.T, p api.Program, args []uint64, fuels []int) {
	t.Helper()
	var less api.Run
	for i, fuel := range fuels {
		r, e := source.Run(p, args, fuel)
		if e != api.OK || r.Steps > fuel || r.End == api.EndFuel && (r.Steps != fuel || r.N != 0) || r.End == api.EndStuck || r.End == api.EndNone {
			t.Fatalf("%+v, %d, fuel %d: %+v, %d", p, args, fuel, r, e)
		}
		if i > 0 && less.End != api.EndFuel && !same(less, r) || i > 0 && !begins(less, r) {
			t.Fatalf("%+v, %d, fuel %d: %+v, and with less %+v", p, args, fuel, r, less)
		}
		less = r
	}
}

// upTo tells numbers from 0 on, and then some, in order.
func upTo(n int, more ...int) (l []int) {
	for i := range n {
		l = append(l, i)
	}
	return append(l, more...)
}

// TestMoreFuel: P10.2.
func TestMoreFuel(t *testing.T) {
	l, args := literal()
	for i, p := range l {
		holdFuel(t, p, args[i], upTo(100, 101, 200, 300, 500, 1000, 2000, 4000, 10000, api.MaxFuel-1, api.MaxFuel))
	}
	s := sample.Turns(102)
	for range 40 {
		p, args := Any(&s)
		holdFuel(t, p, args, upTo(60, 61, 64, 70, 80, 100, 140, 220, 500, 1000, 5000))
	}
}

// TestJustEnough: a run that ends otherwise than by EndFuel does so with as much fuel as it has used, and not with one less.
func TestJustEnough(t *testing.T) {
	s := sample.Turns(7)
	many := 0
	for range 400 {
		p, args := Any(&s)
		r, e := source.Run(p, args, 3000)
		if e != api.OK || r.End == api.EndFuel {
			continue
		}
		many++
		enough, _ := source.Run(p, args, r.Steps)
		less, _ := source.Run(p, args, r.Steps-1)
		if !same(enough, r) || less.End != api.EndFuel || less.Steps != r.Steps-1 || !begins(less, r) {
			t.Fatalf("%+v, %d: %+v, %+v, %+v", p, args, r, enough, less)
		}
	}
	if many < 200 {
		t.Errorf("%d", many)
	}
}

// spoil writes into all that a run has told, and into its spare room.
func spoil(r api.Run) {
	lists := [][]uint64{r.Trace}
	for _, c := range r.Calls[:cap(r.Calls)] {
		lists = append(lists, c.Args, c.Results)
	}
	for _, l := range lists {
		for i := range l[:cap(l)] {
			l[:cap(l)][i] = 12345
		}
	}
	for i := range r.Calls[:cap(r.Calls)] {
		r.Calls[:cap(r.Calls)][i].Func = 99
	}
}

// TestNothingShared: R1, R2: a program and arguments are neither changed nor kept; what is told is new; the same call tells the same.
func TestNothingShared(t *testing.T) {
	s := sample.Turns(33)
	for range 200 {
		p, args := Any(&s)
		kept, given := Copied(p), slices.Clone(args)
		r, _ := source.Run(p, args, 400)
		first := plain(r)
		spoil(r)
		again, e := source.Run(p, args, 400)
		if e != api.OK || !same(again, first) {
			t.Fatalf("%+v, %d: %+v, and before %+v", p, args, again, first)
		}
		if !reflect.DeepEqual(Copied(p), kept) || !slices.Equal(args, given) {
			t.Fatalf("what was handed in was changed")
		}
		for i := range args {
			args[i] = 77
		}
		if !same(again, first) {
			t.Fatalf("arguments are kept")
		}
	}
}

// TestListsApart: R2: no two lists of one answer share memory, spare room too.
func TestListsApart(t *testing.T) {
	s := sample.Turns(34)
	for range 60 {
		p, args := Any(&s)
		r, _ := source.Run(p, args, 200)
		want := plain(r)
		for i := range r.Calls {
			c := &r.Calls[i]
			for _, l := range []*[]uint64{&c.Args, &c.Results} {
				old := slices.Clone(*l)
				for n := range (*l)[:cap(*l)] {
					(*l)[:cap(*l)][n] = 4321
				}
				*l = old
			}
			if !same(r, want) {
				t.Fatalf("call %d shares memory", i)
			}
		}
		if _ = append(r.Trace, 1, 2, 3); !same(r, want) {
			t.Fatalf("the trace shares memory")
		}
	}
}

// TestEmptyLists: R2: a nil list and an empty one are one.
func TestEmptyLists(t *testing.T) {
	p := Program(
		api.Func{Locals: []int{}, Results: []int{I64}, Body: Body(
			api.Stmt{Op: api.StmtCall, N: 1, Args: []api.Expr{}, Dst: []int{}, A: []api.Stmt{}, B: []api.Stmt{}},
			api.Stmt{Op: api.StmtIf, Args: []api.Expr{Con(Yes, 1)}, A: []api.Stmt{}, B: []api.Stmt{}, Dst: []int{}},
			api.Stmt{Op: api.StmtReturn, Args: []api.Expr{{Op: api.ExprConst, N: 5, Args: []api.Expr{}}}})},
		api.Func{Body: Body(api.Stmt{Op: api.StmtReturn, Args: []api.Expr{}})})
	want := steps(4, exits(5))
	want.Calls = []api.Call{{Back: true, Results: words(5)}, {Func: 1, Back: true}}
	runs(t, "empty", p, []uint64{}, 4, want)
	runs(t, "nil", p, nil, 4, want)
}

// TestSharedLists: one list may stand in a program in several places; each is a place of its own.
func TestSharedLists(t *testing.T) {
	say := []api.Expr{Index(Str("ab"), Loc(0))}
	one := api.Stmt{Op: api.StmtEmit, Args: say}
	l := Body(one, one)
	p := Alone([]int{I64}, When(Con(Yes, 1), l, l), Set(0, Num(1)), When(Con(Yes, 0), l, l), one, Loop(Leave(0)), Ret(Loc(0)))
	q := Alone([]int{I64}, p.Funcs[0].Body...)
	runs(t, "shared", p, nil, 100, exits(1, 'a', 'a', 'b', 'b', 'b'))
	a, _ := source.Run(p, nil, 100)
	if b, e := source.Run(Copied(q), nil, 100); e != api.OK || !same(a, b) {
		t.Errorf("%+v, %+v", a, b)
	}
}
