package tree_test

import (
	"reflect"
	"testing"

	"gantry/api"
	. "gantry/draft"
	"gantry/tree"
)

// TestFunction: words' kinds in order; where locals stand; what is set.
func TestFunction(t *testing.T) {
	p := Program(
		Function(2, []int{Text, U8, Pair, I64}, []int{I64}, Set(2, Made(Pair, Loc(1), Loc(3))), Call(1, []int{3, 2}), Ret(Num(0))),
		Function(0, nil, []int{I64, Pair}, Ret(Num(1), Made(Pair, Con(U8, 1), Num(2)))))
	table, funcs := tree.Of(p)
	f, g := funcs[0], funcs[1]
	if !reflect.DeepEqual(f.Params, []int{api.KindPtr, api.KindI64, api.KindU8}) || !reflect.DeepEqual(f.Others, []int{api.KindU8, api.KindI64, api.KindI64}) || !reflect.DeepEqual(g.Results, []int{api.KindI64, api.KindU8, api.KindI64}) || len(g.Params)+len(g.Others) > 0 {
		t.Errorf("%+v", funcs)
	}
	set, call := f.Body[0], f.Body[1]
	if !reflect.DeepEqual(set.To, []tree.Part{{At: 3, Many: 2}}) || !reflect.DeepEqual(call.To, []tree.Part{{At: 5, Many: 1}, {At: 3, Many: 2}}) || len(f.Body[2].To) > 0 {
		t.Errorf("%+v, %+v", set, call)
	}
	made := set.Args[0]
	if made.T != Pair || made.Args[0].T != U8 || made.Args[0].Part != (tree.Part{At: 2, Many: 1}) || made.Args[1].Part != (tree.Part{At: 5, Many: 1}) {
		t.Errorf("%+v", made)
	}
	if table.Words(Mix) != 9 || table.Stride(ToWide) != api.MaxSize || table.Stride(Text) != 1 || table.Stride(Pairs) != 16 || table.Stride(ToNil0) != 0 {
		t.Errorf("%+v", table)
	}
}

// TestTerms: types that are not written down, offsets, words that are always the same, texts one behind the other, though some are never come to.
func TestTerms(t *testing.T) {
	p := Alone([]int{ToMix, Yes, Pair}, Ret(Num(1)),
		Set(1, Compare(api.BinEq, Index(Str("abc"), Num(-1)), Con(U8, 2))), When(Con(Yes, 1), Body(Emit(Length(Str("de")))), Body(Emit(Length(Str(""))))), Emit(Length(Str("f"))),
		Emit(Field(1, Load(Addr(ToPair, 2, Loc(0))))), Emit(Length(Null(List))), Emit(Bin(api.BinShl, Field(0, Loc(2)), Num(1))))
	_, funcs := tree.Of(p)
	l := funcs[0].Body
	text := func(x tree.Term) []uint64 { return x.Args[0].Words }
	compare := l[1].Args[0]
	for i, c := range []struct{ got, want any }{
		{compare.T, Yes}, {compare.N, api.BinEq}, {compare.Args[0].T, U8}, {compare.Args[0].Args[1].Words, []uint64{1<<64 - 1}},
		{text(compare.Args[0]), []uint64{api.DataBase, 3}},
		{text(l[2].A[0].Args[0]), []uint64{api.DataBase + 3, 2}},
		{text(l[2].B[0].Args[0]), []uint64{api.DataBase + 5, 0}},
		{text(l[3].Args[0]), []uint64{api.DataBase + 5, 1}},
		{l[4].Args[0].T, I64}, {l[4].Args[0].Part, tree.Part{At: 1, Many: 1}}, {l[4].Args[0].Args[0].T, Pair}, {l[4].Args[0].Args[0].Args[0].N, 24},
		{text(l[5].Args[0]), []uint64{0, 0}}, {l[6].Args[0].T, U8},
	} {
		if !reflect.DeepEqual(c.got, c.want) {
			t.Errorf("%d: %v, not %v", i, c.got, c.want)
		}
	}
}
