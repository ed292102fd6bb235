package draft

import "gantry/api"

// Primes tells the primes below its argument by a row of bools, and how many there are.
func Primes() api.Program {
	at := func(i int64) api.Expr { return Elem(ToYes, Loc(1), Loc(i)) }
	up := func(n int64, by api.Expr) api.Stmt { return Set(n, Bin(api.BinAdd, Loc(n), by)) }
	stop := func(n int64) api.Stmt { return When(Compare(api.BinGe, Loc(n), Loc(0)), Body(Leave(0)), nil) }
	cross := Loop(stop(3), Store(at(3), Con(Yes, 1)), up(3, Loc(2)))
	found := Body(Emit(Loc(2)), up(4, Num(1)), Set(3, Bin(api.BinMul, Loc(2), Loc(2))), cross)
	return Program(Function(1, []int{I64, Bits, I64, I64, I64}, []int{I64},
		Set(1, Row(Bits, Loc(0))), Set(2, Num(2)),
		Loop(stop(2), When(Un(api.UnNot, Load(at(2))), found, nil), up(2, Num(1))),
		Ret(Loc(4))))
}

// Divided tells the quotient and what is left, and their greatest common divisor by calls.
func Divided() api.Program {
	return Program(
		Function(2, []int{I64, I64, I64, I64}, []int{I64},
			Call(1, []int{3, 2}, Loc(0), Loc(1)), Emit(Loc(2)), Emit(Loc(3)), Call(2, []int{2}, Loc(0), Loc(1)), Ret(Loc(2))),
		Function(2, []int{I64, I64}, []int{I64, I64}, Ret(Bin(api.BinDiv, Loc(0), Loc(1)), Bin(api.BinRem, Loc(0), Loc(1)))),
		Function(2, []int{I64, I64, I64}, []int{I64},
			When(Compare(api.BinEq, Loc(1), Num(0)), Body(Ret(Loc(0))), Body(Call(2, []int{2}, Loc(1), Bin(api.BinRem, Loc(0), Loc(1))), Ret(Loc(2))))))
}

// Chain lays a text's bytes into a chain of structs in the heap, and tells them from its last one on.
func Chain() api.Program {
	const node, toNode = ManyTypes, ManyTypes + 2 // node: to a struct of u8, node
	p := Program(Function(1, []int{U8, Text, I64, node, node}, []int{I64},
		Set(1, Slice(Str("abcdefgh"), Num(1), Loc(0))),
		Loop(
			When(Compare(api.BinGe, Loc(2), Length(Loc(1))), Body(Leave(0)), nil),
			Set(4, Fresh(node)), Store(Addr(ToU8, 0, Loc(4)), Index(Loc(1), Loc(2))), Store(Addr(toNode, 1, Loc(4)), Loc(3)), Set(3, Loc(4)),
			Set(2, Bin(api.BinAdd, Loc(2), Num(1)))),
		Loop(
			When(Compare(api.BinEq, Loc(3), Null(node)), Body(Leave(0)), nil),
			Emit(Load(Addr(ToU8, 0, Loc(3)))), Set(3, Load(Addr(toNode, 1, Loc(3))))),
		Ret(Loc(2))))
	p.Types = append(p.Types, PtrTo(node+1), Structure(U8, node), PtrTo(node))
	return p
}

// Down calls itself so many times, with a word that is one less each time; it tells how often it was called.
func Down() api.Program {
	return Program(
		Function(1, []int{I64, I64}, []int{I64}, Call(1, []int{1}, Loc(0)), Emit(Num(1)), Ret(Loc(1))),
		Function(1, []int{I64, I64}, []int{I64}, When(Compare(api.BinLe, Loc(0), Num(1)), Body(Ret(Num(1))), nil), Call(1, []int{1}, Bin(api.BinSub, Loc(0), Num(1))), Ret(Bin(api.BinAdd, Loc(1), Num(1)))))
}
