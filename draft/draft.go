// Package draft writes programs, by hand or such as look like any others, for tests of the packages that take such.
package draft

import (
	"slices"

	"gantry/api"
)

// The types of the programs here.
const (
	I64 = iota
	Yes
	I8
	I16
	I32
	U8
	U16
	U32
	U64
	F64
	Text
	Pair // struct of u8, i64
	None // struct of nothing
	List // of i64
	Bits // slice of bools
	Arr  // three i64
	Thin // struct of u8, i16, bool, u8, u32: 12 bytes
	Mix  // struct of bool, text, pair, u16, list, none, i8: 9 words
	Hold // struct of u8, arr, none, i16: no value's type
	Grid // two arr
	Wide // an array of MaxSize bytes
	Full // struct of MaxWords i64
	Nil0 // an array of no i64
	To64 // pointers
	ToYes
	ToU8
	ToI16
	ToF64
	ToText
	ToPair
	ToNone
	ToList
	ToArr
	ToMix
	ToHold
	ToGrid
	ToWide
	ToFull
	ToNil0
	ToTo // to to64
	Self // to itself
	Pairs
	Texts
	Nones
	Mixes
	Lists
	Arrs
	Wides
	Smalls // of i16
	ToU32
	Tos // of to64
	ToThin
	Thins
	ManyTypes
)

func Kind(k int) api.Type { return api.Type{Kind: k} }

func PtrTo(i int) api.Type { return api.Type{Kind: api.KindPtr, Elem: i} }

func SliceOf(i int) api.Type { return api.Type{Kind: api.TypeSlice, Elem: i} }

func ArrayOf(i, n int) api.Type { return api.Type{Kind: api.TypeArray, Elem: i, N: n} }

func Structure(l ...int) api.Type { return api.Type{Kind: api.TypeStruct, Fields: l} }

func Types() []api.Type {
	return []api.Type{
		Kind(api.KindI64), Kind(api.KindBool), Kind(api.KindI8), Kind(api.KindI16), Kind(api.KindI32), Kind(api.KindU8), Kind(api.KindU16), Kind(api.KindU32), Kind(api.KindU64), Kind(api.KindF64),
		Kind(api.TypeString), Structure(U8, I64), Structure(), SliceOf(I64), SliceOf(Yes), ArrayOf(I64, 3), Structure(U8, I16, Yes, U8, U32), Structure(Yes, Text, Pair, U16, List, None, I8), Structure(U8, Arr, None, I16), ArrayOf(Arr, 2), ArrayOf(U8, api.MaxSize), Structure(slices.Repeat([]int{I64}, api.MaxWords)...), ArrayOf(I64, 0),
		PtrTo(I64), PtrTo(Yes), PtrTo(U8), PtrTo(I16), PtrTo(F64), PtrTo(Text), PtrTo(Pair), PtrTo(None), PtrTo(List), PtrTo(Arr), PtrTo(Mix), PtrTo(Hold), PtrTo(Grid), PtrTo(Wide), PtrTo(Full), PtrTo(Nil0), PtrTo(To64), PtrTo(Self),
		SliceOf(Pair), SliceOf(Text), SliceOf(None), SliceOf(Mix), SliceOf(List), SliceOf(Arr), SliceOf(Wide), SliceOf(I16), PtrTo(U32), SliceOf(To64), PtrTo(Thin), SliceOf(Thin),
	}
}

func KindOf(t int) int { return Types()[t].Kind }
