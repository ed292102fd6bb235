package build_test

import (
	"slices"
	"testing"

	"gantry/api"
	. "gantry/draft"
)

// count tells how many values of a Code have that Op, and that kind, unless it is KindNone.
func count(c api.Code, op, kind int) (told int) {
	for _, v := range c.Values {
		if v.Op == op && (kind == api.KindNone || v.Kind == kind) {
			told++
		}
	}
	return told
}

// counted is a loop that goes on until the local 0 is 0, and does so.
func counted(l ...api.Stmt) api.Stmt {
	return Loop(append(Body(at(0, 0, Leave(0)), up(0, -1)), l...)...)
}

// TestPhis: P16.1: no OpPhi is one value: of locals that a loop does not change, that it changes in one branch alone, that are set on no way. Nor is there one that nobody needs.
func TestPhis(t *testing.T) {
	odd := Compare(api.BinEq, Bin(api.BinAnd, Loc(0), Num(1)), Num(1))
	for _, c := range []struct {
		name   string
		l      []api.Stmt
		words  int // OpPhis of words, of KindMem
		memory int
	}{
		{"no way but one", Body(Set(1, Loc(0)), Set(2, Bin(api.BinAdd, Loc(1), Loc(3)))), 0, 0},
		{"a loop's own local", Body(counted()), 1, 0},
		{"not changed", Body(counted(Emit(Loc(2)))), 1, 1},
		{"changed in one branch", Body(counted(When(odd, Body(up(1, 1)), nil))), 3, 0},
		{"changed in the other branch", Body(counted(When(odd, nil, Body(Set(1, Loc(0)))), Emit(Loc(1)))), 3, 1},
		{"changed in both branches", Body(counted(When(odd, Body(up(1, 1)), Body(up(1, 2))))), 3, 0},
		{"the same in both branches", Body(counted(When(odd, Body(Set(1, Loc(2))), Body(Set(1, Loc(2)))))), 2, 0},
		{"set to itself", Body(counted(Set(1, Loc(1)))), 1, 0},
		{"back to what it was", Body(counted(Set(2, Loc(1)), up(1, 5), Set(1, Loc(2)))), 1, 0},
		{"set on no way", Body(counted(counted(Emit(Bin(api.BinAdd, Loc(1), Loc(2)))))), 2, 2},
		{"set where nobody comes", Body(counted(Again(0), up(1, 1))), 1, 0},
		{"set ahead of each break alone", Body(Loop(at(0, 0, up(1, 1), Leave(0)), up(0, -1))), 1, 0},
		{"set ahead of two breaks", Body(Loop(at(0, 0, up(1, 1), Leave(0)), at(0, 9, Set(1, Num(7)), Leave(0)), up(0, -1))), 2, 0},
		{"set ahead of a return", Body(counted(at(0, 7, up(1, 1), Ret(Loc(1))))), 1, 0},
		{"change places", Body(counted(Set(3, Loc(1)), Set(1, Loc(2)), Set(2, Loc(3))), Emit(Loc(2))), 3, 0},
		{"follow one another", Body(counted(Set(2, Loc(1)), Set(1, Loc(0))), Emit(Loc(2))), 3, 0},
		{"what is set anew in each round", Body(counted(Set(2, Loc(0)), up(2, 3), Emit(Loc(2)))), 1, 1},
		{"what nobody asks for", Body(counted(up(2, 1))), 2, 0},
		{"what nobody asks for behind an if", Body(When(odd, Body(Set(2, Num(1))), nil)), 0, 0},
		{"loops within loops", Body(counted(Set(2, Num(3)), Loop(at(2, 0, Leave(0)), up(2, -1), up(1, 1)))), 4, 0},
		{"loops within loops that change nothing of it", Body(counted(up(1, 1), Set(2, Num(3)), Loop(at(2, 0, Leave(0)), up(2, -1)))), 3, 0},
		{"a loop that is gone once", Body(Loop(up(1, 1), Leave(0)), Emit(Loc(1))), 0, 0},
		{"a loop without end behind an if", Body(When(odd, Body(Loop(Emit(Num(1)))), nil)), 0, 1},
		{"told on one way", Body(When(odd, Body(Emit(Num(1))), nil)), 0, 1},
		{"told on no way", Body(When(odd, nil, nil), counted()), 1, 0},
		{"both", Body(When(Both(odd, odd), Body(up(1, 1)), nil)), 2, 0},
	} {
		p := Program(Function(2, []int{I64, I64, I64, I64}, []int{I64}, append(slices.Clone(c.l), Ret(Loc(1)))...))
		u := built(t, c.name, p)
		all, memory := count(u.Codes[0], api.OpPhi, api.KindNone), count(u.Codes[0], api.OpPhi, api.KindMem)
		if all-memory != c.words || memory != c.memory {
			t.Errorf("%s: %d OpPhis of words, %d of KindMem, not %d, %d: %+v", c.name, all-memory, memory, c.words, c.memory, u.Codes[0])
		}
		for n := range uint64(4) {
			holdRun(t, c.name, p, u, words(n, 40), 3, 9, 27, 60)
		}
	}
}

// TestNoMemory: P16.2: locals of all kinds, which loops and branches change, and what goes through calls: no OpLoad, OpStore.
func TestNoMemory(t *testing.T) {
	p := Program(
		Function(1, []int{I64, Full, Text, List, F64, Pair, Mix, To64, Yes}, []int{I64},
			counted(
				Set(5, Made(Pair, Con(U8, 3), Loc(0))), Set(7, Fresh(To64)),
				When(Loc(8), Body(Set(3, Row(List, Field(1, Loc(5)))), Set(2, Str("abc"))), Body(Set(2, Slice(Loc(2), Num(0), Length(Loc(2)))), Set(4, Bin(api.BinAdd, Loc(4), Float(BitsOf(1)))))),
				Set(8, Un(api.UnNot, Loc(8))), Call(1, []int{1, 6}, Loc(6), Loc(1)), Emit(Length(Loc(2))), Emit(Length(Loc(3))), Emit(Loc(4))),
			Ret(Field(15, Loc(1)))),
		Function(2, []int{Mix, Full}, []int{Full, Mix}, Ret(Loc(1), Loc(0))))
	for i, c := range built(t, "no memory", p).Codes {
		if count(c, api.OpLoad, api.KindNone) != 0 || count(c, api.OpStore, api.KindNone) != 0 {
			t.Errorf("Code %d: %+v", i, c)
		}
	}
	hold(t, "no memory", p, 7)
}

// TestMemory: P16.2: what is loaded and stored are the words that the program loads and stores, at their offsets, and no others.
func TestMemory(t *testing.T) {
	p := Alone([]int{ToMix, Mix, Pair}, Set(0, Fresh(ToMix)), Store(Loc(0), Loc(1)), Set(1, Load(Loc(0))), Store(Addr(ToPair, 2, Loc(0)), Loc(2)), Emit(Index(Str("a"), Num(0))), Set(2, Field(2, Load(Loc(0)))), Ret(Num(0)))
	c := built(t, "memory", p).Codes[0]
	var loads, stores []int
	for _, v := range c.Values {
		switch v.Op {
		case api.OpLoad:
			loads = append(loads, int(v.N), v.Kind)
		case api.OpStore:
			stores = append(stores, int(v.N), c.Values[v.Args[1]].Kind)
		}
	}
	mix := []int{0, api.KindBool, 8, api.KindPtr, 16, api.KindI64, 24, api.KindU8, 32, api.KindI64, 40, api.KindU16, 48, api.KindPtr, 56, api.KindI64, 64, api.KindI8}
	if !slices.Equal(loads, slices.Concat(mix, []int{0, api.KindU8}, mix)) || !slices.Equal(stores, append(slices.Clone(mix), 0, api.KindU8, 8, api.KindI64)) {
		t.Errorf("%d, %d", loads, stores)
	}
	hold(t, "memory", p)
}
