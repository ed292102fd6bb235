package build_test

import (
	"testing"

	"gantry/api"
	. "gantry/draft"
)

// up is a statement by which a local goes up.
func up(n, by int64) api.Stmt { return Set(n, Bin(api.BinAdd, Loc(n), Num(by))) }

// at is a statement that does others if a local is that number.
func at(n, x int64, l ...api.Stmt) api.Stmt {
	return When(Compare(api.BinEq, Loc(n), Num(x)), l, nil)
}

// TestNested: P16.1: ifs within loops and loops within ifs; breaks and continues of inner and outer loops.
func TestNested(t *testing.T) {
	t.Parallel()
	p := Program(Function(1, []int{I64, I64, I64}, []int{I64},
		Loop(
			up(1, 1),
			at(1, 9, Leave(0)),
			When(Compare(api.BinLt, Loc(0), Num(3)),
				Body(Set(2, Num(0)), Loop(
					up(2, 1),
					at(2, 2, Again(0)),
					at(2, 4, Again(1)),
					When(Compare(api.BinEq, Loc(1), Num(5)), Body(at(0, 1, Leave(1))), Body(at(0, 2, Leave(0)))),
					Emit(Bin(api.BinAdd, Bin(api.BinMul, Loc(1), Num(10)), Loc(2))))),
				Body(Emit(Loc(1)), at(1, 3, Ret(Num(-3))), Loop(at(1, 2, Again(1)), Leave(0)))),
			Emit(Num(0))),
		Ret(Bin(api.BinAdd, Bin(api.BinMul, Loc(1), Num(100)), Loc(2)))))
	inner := words(11, 13, 21, 23, 31, 33, 41, 43, 51, 53, 61, 63, 71, 73, 81, 83)
	does(t, "all rounds", p, words(0), api.EndExit, 904, inner...)
	does(t, "out of both", p, words(1), api.EndExit, 501, inner[:8]...)
	does(t, "out of the inner one", p, words(2), api.EndExit, 901, 0, 0, 0, 0, 51, 53, 0, 0, 0)
	does(t, "a return", p, words(3), api.EndExit, -3, 1, 0, 2, 3)
}

// TestEnds: P16.1: what stands behind a break, a continue, a return, a panic is never come to, but its texts stand in the data; a function all of whose ways end.
func TestEnds(t *testing.T) {
	t.Parallel()
	never := func() []api.Stmt {
		return Body(Emit(Index(Str("never"), Num(0))), Set(0, Num(7)), Loop(Leave(0)), When(Con(Yes, 1), Body(Leave(0)), Body(Emit(Num(99)))))
	}
	say := func(s string) api.Stmt { return Emit(Index(Str(s), Num(0))) }
	p := Program(Function(1, []int{I64}, []int{I64},
		Loop(append(Body(say("a"), Leave(0)), never()...)...),
		Loop(
			at(0, 5, append(Body(say("b"), Set(0, Num(6)), Again(0)), never()...)...),
			When(Compare(api.BinEq, Loc(0), Num(4)), append(Body(Quit(3)), never()...), Body(say("c"), Leave(0))),
			Emit(Index(Str("neither"), Num(0)))),
		say("d"),
		When(Compare(api.BinEq, Loc(0), Num(6)), Body(say("e"), Ret(Num(1)), say("no")), Body(Ret(Num(2)), say("none"))),
		say("nowhere"), Loop(say("nothing")), Ret(Num(3))))
	does(t, "once more", p, words(5), api.EndExit, 1, 'a', 'b', 'c', 'd', 'e')
	does(t, "not once more", p, words(0), api.EndExit, 2, 'a', 'c', 'd')
	does(t, "a panic", p, words(4), api.EndPanic, api.PanicUser+3, 'a')
	only := Alone(nil, Quit(255))
	does(t, "a panic alone", only, nil, api.EndPanic, api.PanicUser+255)
	both := Alone([]int{Yes}, Loop(When(Loc(0), Body(Ret(Num(1))), Body(Set(0, Con(Yes, 1)), Again(0)))))
	does(t, "no way out of a loop", both, nil, api.EndExit, 1)
}

// TestEmptyStatements: P16.1: branches and loops of nothing.
func TestEmptyStatements(t *testing.T) {
	t.Parallel()
	for n := range uint64(2) {
		p := Program(Function(1, []int{Yes}, []int{I64}, When(Loc(0), nil, nil), When(Loc(0), Body(Emit(Num(1))), nil), When(Loc(0), nil, Body(Emit(Num(2)))), Loop(Leave(0)), Ret(Num(3))))
		does(t, "nothing", p, words(n), api.EndExit, 3, 2-n)
	}
	does(t, "endless", Alone(nil, Emit(Num(1)), Loop()), nil, api.EndFuel, 0, 1)
	does(t, "endless, again", Alone(nil, Emit(Num(1)), Loop(Loop(Again(1)))), nil, api.EndFuel, 0, 1)
	does(t, "endless, without end", Alone(nil, Emit(Num(1)), Loop(Loop(Leave(0)))), nil, api.EndFuel, 0, 1)
}

// TestCalls: P16.1: parameters and results of several words in order, results into locals that its arguments need, a function that calls itself.
func TestCalls(t *testing.T) {
	t.Parallel()
	p := Program(
		Function(3, []int{I64, I64, I64}, []int{I64}, Call(1, []int{2, 0, 1}, Loc(0), Loc(1), Loc(2)), Emit(Loc(0)), Emit(Loc(1)), Call(1, []int{0, 1, 2}, Loc(2), Loc(2), Loc(0)), Emit(Loc(0)), Emit(Loc(1)), Ret(Loc(2))),
		Function(3, []int{I64, I64, I64}, []int{I64, I64, I64}, Emit(Loc(0)), Ret(Bin(api.BinSub, Loc(1), Loc(2)), Loc(2), Loc(0))))
	does(t, "changed places", p, words(1, 20, 300), api.EndExit, -280, 1, 300, 1, minus(280), minus(580), 300)
	fib := Program(
		Function(1, []int{I64, I64}, []int{I64}, Call(1, []int{1}, Loc(0)), Ret(Loc(1))),
		Function(1, []int{I64, I64, I64}, []int{I64}, When(Compare(api.BinLe, Loc(0), Num(1)), Body(Ret(Loc(0))), nil),
			Call(1, []int{1}, Bin(api.BinSub, Loc(0), Num(1))), Call(1, []int{2}, Bin(api.BinSub, Loc(0), Num(2))), Emit(Loc(2)), Ret(Bin(api.BinAdd, Loc(1), Loc(2)))))
	does(t, "itself", fib, words(4), api.EndExit, 3, 0, 1, 0, 1)
	main := Program(Function(1, []int{I64, I64}, []int{I64}, at(0, 0, Ret(Num(5))), Call(0, []int{1}, Bin(api.BinSub, Loc(0), Num(1))), Emit(Loc(0)), Ret(Loc(1))))
	does(t, "the function 0", main, words(3), api.EndExit, 5, 1, 2, 3)
}

// TestDeep: P16.1: 1024 functions away, and one more: EndResource.
func TestDeep(t *testing.T) {
	t.Parallel()
	does(t, "1024", Down(), words(1023), api.EndExit, 1023, 1)
	does(t, "1025", Down(), words(1024), api.EndResource, 0)
	does(t, "without end", Program(Function(0, nil, []int{I64}, Emit(Num(6)), Call(1, nil), Ret(Num(0))), Function(0, nil, nil, Call(1, nil), Ret())), nil, api.EndResource, 0, 6)
}
