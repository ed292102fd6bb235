package eval_test

import (
	"slices"
	"testing"

	"gantry/api"
	. "gantry/hand"
)

// room is how many bytes the memory has from DataBase on.
const room = api.MaxMemory - api.DataBase

// TestStoresAndLoads: a word of each kind, its lowest byte first, at Args[0] + N; what lies apart stays.
func TestStoresAndLoads(t *testing.T) {
	for _, x := range []struct {
		kind  int
		word  uint64
		bytes []uint64
	}{
		{Yes, 1, words(1)}, {I8, minus(2), words(0xfe)}, {U8, 0xfe, words(0xfe)}, {I16, minus(2), words(0xfe, 0xff)}, {U16, 0x1234, words(0x34, 0x12)},
		{I32, minus(3), words(0xfd, 0xff, 0xff, 0xff)}, {U32, 0x12345678, words(0x78, 0x56, 0x34, 0x12)}, {I64, minus(4), words(0xfc, 0xff, 0xff, 0xff, 0xff, 0xff, 0xff, 0xff)},
		{U64, 0x123456789abcdef0, words(0xf0, 0xde, 0xbc, 0x9a, 0x78, 0x56, 0x34, 0x12)}, {F64, bits(-2), words(0, 0, 0, 0, 0, 0, 0, 0xc0)},
	} {
		m := Begin()
		p := m.Block(24)
		m.Store(p, 5, m.Con(x.kind, x.word))
		m.Emit(m.Load(x.kind, p, 5))
		m.Emit(m.Load(U8, p, 4))
		for i := range x.bytes {
			m.Emit(m.Load(U8, m.Addr(p, 2), int64(3+i)))
		}
		m.Emit(m.Load(U8, p, int64(5+len(x.bytes))))
		trace := append(words(x.word, 0), x.bytes...)
		exits(t, "a word", Unit(m.Done()), append(trace, 0)...)
	}
	m := Begin()
	p := m.Block(8)
	m.Store(p, 0, m.Addr(p, 1))
	m.Emit(m.Load(I64, p, 0))
	m.Emit(m.Load(U8, m.Load(Ptr, p, 0), 0))
	exits(t, "a pointer", Unit(m.Done()), api.DataBase+1, 0x10)
}

// TestKindsOfLoads: an OpLoad is of its own kind, an OpStore of its word's: what it lays stands there for all kinds.
func TestKindsOfLoads(t *testing.T) {
	m := Begin()
	p := m.Block(8)
	m.Store(p, 0, m.Con(U64, 0x00000000fedc8003))
	for _, k := range []int{Yes, I8, U8, I16, U16, I32, U32, I64, U64} {
		m.Emit(m.Load(k, p, 0))
	}
	m.Emit(m.Load(Yes, p, 2))
	m.Store(p, 1, m.Con(U16, 0xabcd))
	m.Emit(m.Load(U64, p, 0))
	exits(t, "of all kinds", Unit(m.Done()), 1, 3, 3, minus(0x7ffd), 0x8003, minus(0x01237ffd), 0xfedc8003, 0xfedc8003, 0xfedc8003, 0, 0xfeabcd03)
}

// TestLoadsOneBehindTheOther: an OpLoad tells what stands there when it is come to, and keeps it.
func TestLoadsOneBehindTheOther(t *testing.T) {
	m := Begin()
	p := m.Block(8)
	before := m.Load(I64, p, 0)
	m.Store(p, 0, m.Num(7))
	m.Store(p, 0, m.Num(8))
	after := m.Load(I64, p, 0)
	m.Store(p, 0, m.Num(9))
	m.Emit(before)
	m.Emit(after)
	m.Emit(m.Load(I64, p, 0))
	exits(t, "loads", Unit(m.Done()), 0, 8, 9)
}

// TestData: Data stand at DataBase, rounded up to a multiple of 8 with zeros; they may be stored to, but each run begins with them as they were handed in.
func TestData(t *testing.T) {
	m := Begin()
	for i := range int64(8) {
		m.Emit(m.Load(U8, m.Data(0), i))
	}
	m.Emit(m.Load(U16, m.Data(3), 0))
	m.Store(m.Data(5), 2, m.Con(U8, 77))
	m.Store(m.Data(0), 0, m.Con(U8, 78))
	m.Emit(m.Load(U64, m.Data(0), 0))
	m.Emit(m.Load(U8, m.Block(1), 0))
	u := WithData([]byte{1, 2, 3, 4, 5}, m.Done())
	for range 2 {
		exits(t, "data", u, 1, 2, 3, 4, 5, 0, 0, 0, 0x504, 77<<56|0x050403024e, 0)
	}
}

// address makes a program that loads from, and one that stores to, the word of that kind at p + n, with so many bytes of Data.
func address(data, kind int, p uint64, n int64) (load, store api.Unit) {
	m := Begin()
	m.Emit(m.Load(kind, m.Point(p), n))
	load = WithData(make([]byte, data), m.Done())
	m = Begin()
	x := m.Con(kind, 1)
	m.Store(m.Point(p), n, x)
	m.Emit(m.Load(kind, m.Point(p), n))
	return load, WithData(make([]byte, data), m.Done())
}

// TestPlaces: P15.1: all bytes of an OpLoad, an OpStore lie from DataBase on and ahead of the heap.
func TestPlaces(t *testing.T) {
	const begins, ends = api.DataBase, api.DataBase + 16
	for _, x := range []struct {
		name string
		data int
		kind int
		p    uint64
		n    int64
		is   bool
	}{
		{"at DataBase", 16, U8, begins, 0, true},
		{"a great word at DataBase", 16, U64, begins, 0, true},
		{"below DataBase", 16, U8, begins - 1, 0, false},
		{"a great word that begins below DataBase", 16, U64, begins - 1, 0, false},
		{"a great word that ends at DataBase", 16, U64, begins - 8, 0, false},
		{"at 0", 16, U8, 0, 0, false},
		{"from 0 by N to DataBase", 16, U8, 0, begins, true},
		{"from 0 by N to below DataBase", 16, U8, 0, begins - 1, false},
		{"from DataBase by N", 16, U32, begins, 12, true},
		{"by the greatest N", api.MaxSize + 8, U64, begins, api.MaxSize, true},
		{"by the greatest N, over the end", api.MaxSize, U8, begins, api.MaxSize, false},
		{"at the heap's very end", 16, U8, ends - 1, 0, true},
		{"a word of 2 bytes at the heap's very end", 16, I16, ends - 2, 0, true},
		{"a word of 4 bytes at the heap's very end", 16, U32, ends - 4, 0, true},
		{"a word of 8 bytes at the heap's very end", 16, F64, ends - 8, 0, true},
		{"a bool at the heap's very end", 16, Yes, ends - 1, 0, true},
		{"at the heap", 16, U8, ends, 0, false},
		{"a bool at the heap", 16, Yes, ends, 0, false},
		{"2 bytes over", 16, I16, ends - 1, 0, false},
		{"4 bytes over", 16, U32, ends - 3, 0, false},
		{"8 bytes over", 16, F64, ends - 7, 0, false},
		{"over by N", 16, U64, ends - 8, 1, false},
		{"behind data that are rounded up", 9, U8, ends - 1, 0, true},
		{"and over them", 9, U8, ends, 0, false},
		{"a memory of nothing", 0, U8, begins, 0, false},
		{"in the memory, far over the heap", 16, U8, api.MaxMemory - 1, 0, false},
		{"over the memory", 16, U8, api.MaxMemory, 0, false},
		{"far over the memory", 16, U64, 1 << 63, 0, false},
		{"the last address", 16, U8, minus(1), 0, false},
		{"round from the last address to 0", 16, U64, minus(1), 0, false},
		{"round from below to the heap", 16, U64, minus(8), 0, false},
		{"round by N to DataBase", 16, U64, minus(1), begins + 1, true},
		{"round by N to below DataBase", 16, U8, minus(1), begins, false},
		{"round by N to the heap's very end", 16, U8, minus(2), ends + 1, true},
		{"round by N to the heap", 16, U8, minus(2), ends + 2, false},
		{"not round by N", 16, U8, minus(10), 9, false},
	} {
		load, store := address(x.data, x.kind, x.p, x.n)
		if x.is {
			exits(t, x.name+", a load", load, 0)
			exits(t, x.name+", a store", store, 1)
		} else {
			stuck(t, x.name+", a load", load)
			stuck(t, x.name+", a store", store)
		}
	}
}

// TestPlacesThatNobodyNeeds: an OpLoad that nobody uses ends by EndStuck all the same.
func TestPlacesThatNobodyNeeds(t *testing.T) {
	m := Begin()
	m.Emit(m.Num(1))
	m.Load(U8, m.Point(0), 0)
	m.Emit(m.Num(2))
	stuck(t, "a load", Unit(m.Done()), 1)
}

// TestHeapAsItIs: a place is there from its OpAlloc on.
func TestHeapAsItIs(t *testing.T) {
	const first, second = api.DataBase + 8, api.DataBase + 24
	use := func(p uint64) api.Unit {
		m := Begin()
		m.Alloc(m.Con(U64, 9))
		m.Emit(m.Load(U8, m.Point(p), 0))
		m.Alloc(m.Con(U64, 1))
		m.Emit(m.Load(U8, m.Point(p), 8))
		return WithData(make([]byte, 3), m.Done())
	}
	exits(t, "in the first block", use(first), 0, 0)
	exits(t, "at its end", use(second-1), 0, 0)
	stuck(t, "behind it", use(second))
	exits(t, "in its words across its end", func() api.Unit {
		m := Begin()
		p := m.Block(9)
		m.Block(1)
		m.Store(p, 12, m.Con(U64, 0x0102030405060708))
		m.Emit(m.Load(U32, p, 16))
		return Unit(m.Done())
	}(), 0x01020304)
}

// TestBlocks: a new block begins at the heap, and has its bytes rounded up to a multiple of 8, 8 at least; an OpBlock tells where, however late it is asked, and however often.
func TestBlocks(t *testing.T) {
	m := Begin()
	where := func(p int) { m.Emit(m.Bin(api.BinSub, I64, m.Conv(I64, m.Load(U64, p, 0)), m.Num(api.DataBase))) }
	// Each block's beginning is laid into it, to be told as a number.
	var blocks []int
	for _, n := range []uint64{0, 1, 7, 8, 9, 16, 17, 100} {
		blocks = append(blocks, m.Alloc(m.Con(U64, n)))
	}
	m.Alloc(m.Con(U64, 0))
	for _, b := range blocks {
		p := m.Add(api.OpBlock, Ptr, 0, b)
		m.Store(p, 0, p)
		where(m.Add(api.OpBlock, Ptr, 0, b))
	}
	exits(t, "blocks", Unit(m.Done()), 0, 8, 16, 24, 32, 48, 64, 88)
	m = Begin()
	p := m.Block(0)
	m.Store(p, 0, p)
	where(p)
	exits(t, "behind data", WithData(make([]byte, 13), m.Done()), 16)
}

// TestNewBlocks: a new block's bytes are 0, a block of 0 bytes has 8.
func TestNewBlocks(t *testing.T) {
	m := Begin()
	m.Store(m.Data(0), 0, m.Con(U64, minus(1)))
	p := m.Block(0)
	m.Emit(m.Load(U64, p, 0))
	m.Store(p, 0, m.Con(U64, minus(1)))
	q := m.Block(9)
	m.Emit(m.Load(U64, q, 0))
	m.Emit(m.Load(U64, q, 8))
	exits(t, "zeros", WithData([]byte{1}, m.Done()), 0, 0, 0)
	m = Begin()
	m.Load(U8, m.Block(0), 8)
	stuck(t, "behind a block of 0 bytes", Unit(m.Done()))
	m = Begin()
	m.Load(U64, m.Block(9), 9)
	stuck(t, "behind a block of 9 bytes", Unit(m.Done()))
}

// TestLargeBlocks: EndResource, if a block is of more than MaxMemory bytes, or has no room; what there is room for is there.
func TestLargeBlocks(t *testing.T) {
	large := func(data int, sizes ...uint64) api.Unit {
		m := Begin()
		for i, n := range sizes {
			m.Block(n)
			m.Emit(m.Num(uint64(i)))
		}
		return WithData(make([]byte, data), m.Done())
	}
	exits(t, "all of it", large(0, room), 0)
	exits(t, "all of it, rounded up", large(0, room-7), 0)
	full(t, "one byte more", large(0, room+1))
	full(t, "MaxMemory", large(0, api.MaxMemory))
	for _, n := range []uint64{api.MaxMemory + 1, 1 << 32, 1 << 63, minus(api.MaxMemory), minus(8), minus(7), minus(1)} {
		full(t, "more than MaxMemory", large(0, n))
	}
	full(t, "no room for a block of 0 bytes", large(0, room, 0), 0)
	exits(t, "room for a block of 0 bytes", large(0, room-8, 0), 0, 1)
	full(t, "room for one block of 0 bytes", large(0, room-8, 0, 0), 0, 1)
	full(t, "behind data", large(9, room-8))
	exits(t, "behind data, and all that is left", large(9, room-16), 0)
	exits(t, "behind data that leave room for one", large(room-8, 8), 0)
	full(t, "behind data that leave too little", large(room-8, 9))
	full(t, "behind data that leave none", large(room-7, 0))
	full(t, "behind data that fill it", large(room, 0))
	m := Begin()
	p := m.Block(room)
	m.Store(m.Element(p, 0, m.Con(U64, room-8), 1), 0, m.Num(5))
	m.Emit(m.Load(I64, m.Point(api.MaxMemory-8), 0))
	exits(t, "the memory's end", Unit(m.Done()), 5)
	m = Begin()
	m.Block(room)
	m.Load(U8, m.Point(api.MaxMemory), 0)
	stuck(t, "over the memory's end", Unit(m.Done()))
}

// TestBlocksInLoop: an OpAlloc makes a new block each time it is come to, of which its OpBlock tells; EndResource, when there is no room any more.
func TestBlocksInLoop(t *testing.T) {
	m := Begin()
	bytes := m.Con(U64, 1000)
	m.Plain(1)
	m.Next(0, 1)
	loop := m.MemoryPhi()
	alloc := m.Alloc(bytes)
	p := m.Add(api.OpBlock, Ptr, 0, alloc)
	m.Store(p, 8, p)
	m.Takes(loop, 0, m.Memory)
	m.Plain(1)
	u := Unit(m)
	const rounds, perRound = room / 1000, 4
	runs(t, "without end", u, nil, api.MaxFuel, api.Run{End: api.EndResource, Steps: 3 + rounds*perRound + 1, Calls: []api.Call{{}}})
	m.Emit(m.Load(I64, p, 8))
	m.Takes(loop, 0, m.Memory)
	r := ran(t, "where they begin", Unit(m), nil, 3+6*3)
	if !slices.Equal(r.Trace, words(4096, 5096, 6096)) || r.End != api.EndFuel {
		t.Errorf("%+v", r)
	}
}

// TestFullData: data may fill the memory.
func TestFullData(t *testing.T) {
	data := make([]byte, room)
	data[room-1] = 9
	m := Begin()
	m.Emit(m.Load(U8, m.Data(room-1), 0))
	m.Emit(m.Load(U64, m.Data(room-8), 0))
	m.Store(m.Data(room-1), 0, m.Con(U8, 8))
	m.Emit(m.Load(U8, m.Data(room-2), 1))
	m.Load(U8, m.Data(room), 0)
	stuck(t, "full", WithData(data, m.Done()), 9, 9<<56, 8)
}

// TestMoreDataThanMemory: Data may be more than the memory has room for: what it has room for stands there, and there is no block.
func TestMoreDataThanMemory(t *testing.T) {
	data := make([]byte, api.MaxCode)
	data[0], data[room-1], data[room], data[len(data)-1] = 1, 2, 3, 4
	m := Begin()
	m.Emit(m.Load(U8, m.Data(0), 0))
	m.Emit(m.Load(U8, m.Data(room-1), 0))
	m.Alloc(m.Con(U64, 0))
	full(t, "a block", WithData(data, m.Done()), 1, 2)
	for _, n := range []int64{room, api.MaxCode - 1, api.MaxCode} {
		m = Begin()
		m.Emit(m.Load(U8, m.Data(room-1), 0))
		m.Load(U8, m.Data(n), 0)
		stuck(t, "behind the memory", WithData(data, m.Done()), 2)
	}
}
