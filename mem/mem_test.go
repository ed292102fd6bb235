package mem

import (
	"bytes"
	"math"
	"testing"

	"gantry/api"
	"gantry/word"
)

const top = math.MaxUint64

func fresh(t *testing.T, size int) *Mem {
	t.Helper()
	m, e := New(size)
	if e != api.OK || m == nil {
		t.Fatalf("New(%d): %v, %d", size, m, e)
	}
	return m
}

// filled is a memory whose every byte that may be reached tells its own address.
func filled(t *testing.T, size int) *Mem {
	t.Helper()
	m := fresh(t, size)
	for a := api.DataBase; a < size; a++ {
		if e := m.Store(uint64(a), api.KindU8, uint64(mark(a))); e != api.OK {
			t.Fatalf("Store(%d): %d", a, e)
		}
	}
	return m
}

func mark(a int) byte { return byte(a*7 + a>>8 + 129) }

// all is every byte that may be reached.
func all(t *testing.T, m *Mem) []byte {
	t.Helper()
	b, e := m.Get(api.DataBase, m.Size()-api.DataBase)
	if e != api.OK {
		t.Fatalf("Get of all: %d", e)
	}
	return b
}

var kinds = []int{api.KindBool, api.KindI8, api.KindI16, api.KindI32, api.KindI64, api.KindU8, api.KindU16, api.KindU32, api.KindU64, api.KindF64, api.KindPtr}

var noKinds = []int{api.KindNone, api.KindMem, -1, 13, 1 << 40, math.MinInt, math.MaxInt}

// P2.1: sizes at and beside both bounds.
func TestNewSize(t *testing.T) {
	for _, n := range []int{math.MinInt, -8192, -1, 0, 1, api.DataBase, api.MinMemory - 1, api.MaxMemory + 1, 2 * api.MaxMemory, math.MaxInt} {
		if m, e := New(n); m != nil || e != api.ErrMemSize {
			t.Errorf("New(%d): %v, %d", n, m, e)
		}
	}
	for _, n := range []int{api.MinMemory, api.MinMemory + 1, 12345, api.MaxMemory - 1, api.MaxMemory} {
		m := fresh(t, n)
		if m.Size() != n {
			t.Errorf("New(%d).Size(): %d", n, m.Size())
		}
		if b := all(t, m); len(b) != n-api.DataBase || bytes.Count(b, []byte{0}) != len(b) {
			t.Errorf("New(%d): not %d bytes of 0", n, n-api.DataBase)
		}
	}
}

// P2.2: each kind's word, its lowest byte first; what its upper bits are.
func TestLoadKinds(t *testing.T) {
	m := fresh(t, 8192)
	m.Put(5000, []byte{0xfe, 0x81, 0xc2, 0xd3, 0xa4, 0xb5, 0x96, 0x87})
	m.Put(6001, []byte{0x7d, 0x6c, 0x5b, 0x4a, 0x39, 0x28, 0x17, 0x06})
	for _, c := range []struct {
		k          int
		even, odd  uint64
		evenSecond uint64
	}{
		{api.KindBool, 0, 1, 1},
		{api.KindI8, top - 1, 0x7d, top - 0x7e},
		{api.KindU8, 0xfe, 0x7d, 0x81},
		{api.KindI16, 0xffffffffffff81fe, 0x6c7d, 0xffffffffffffc281},
		{api.KindU16, 0x81fe, 0x6c7d, 0xc281},
		{api.KindI32, 0xffffffffd3c281fe, 0x4a5b6c7d, 0xffffffffa4d3c281},
		{api.KindU32, 0xd3c281fe, 0x4a5b6c7d, 0xa4d3c281},
		{api.KindI64, 0x8796b5a4d3c281fe, 0x061728394a5b6c7d, 0x008796b5a4d3c281},
		{api.KindU64, 0x8796b5a4d3c281fe, 0x061728394a5b6c7d, 0x008796b5a4d3c281},
		{api.KindF64, 0x8796b5a4d3c281fe, 0x061728394a5b6c7d, 0x008796b5a4d3c281},
		{api.KindPtr, 0x8796b5a4d3c281fe, 0x061728394a5b6c7d, 0x008796b5a4d3c281},
	} {
		for a, want := range map[uint64]uint64{5000: c.even, 6001: c.odd, 5001: c.evenSecond} {
			if x, e := m.Load(a, c.k); x != want || e != api.OK {
				t.Errorf("Load(%d, %d): %x, %d, not %x", a, c.k, x, e, want)
			}
		}
	}
}

// P2.2: a bool is its byte's lowest bit, whatever the others are.
func TestLoadBool(t *testing.T) {
	m := fresh(t, 8192)
	for b := range 256 {
		m.Put(4096, []byte{byte(b)})
		if x, e := m.Load(4096, api.KindBool); x != uint64(b&1) || e != api.OK {
			t.Errorf("Load of a bool that is %x: %d, %d", b, x, e)
		}
	}
}

// P2.2: what stands there behind a Store, byte by byte; nothing beside it.
func TestStoreKinds(t *testing.T) {
	for _, c := range []struct {
		k    int
		x    uint64
		want []byte
	}{
		{api.KindBool, 1, []byte{1}},
		{api.KindBool, 0, []byte{0}},
		{api.KindI8, top - 127, []byte{0x80}},
		{api.KindU8, 255, []byte{255}},
		{api.KindI16, top - 1, []byte{0xfe, 0xff}},
		{api.KindU16, 0x1234, []byte{0x34, 0x12}},
		{api.KindI32, 0xffffffff80000001, []byte{1, 0, 0, 0x80}},
		{api.KindU32, 0xfedcba98, []byte{0x98, 0xba, 0xdc, 0xfe}},
		{api.KindI64, 1 << 63, []byte{0, 0, 0, 0, 0, 0, 0, 0x80}},
		{api.KindU64, 0x0123456789abcdef, []byte{0xef, 0xcd, 0xab, 0x89, 0x67, 0x45, 0x23, 0x01}},
		{api.KindF64, math.Float64bits(1), []byte{0, 0, 0, 0, 0, 0, 0xf0, 0x3f}},
		{api.KindF64, 0x7ff4000000000001, []byte{1, 0, 0, 0, 0, 0, 0xf4, 0x7f}},
		{api.KindPtr, top, []byte{255, 255, 255, 255, 255, 255, 255, 255}},
	} {
		n := len(c.want)
		for _, a := range []int{4096, 5003, 8192 - n} {
			m := filled(t, 8192)
			want := all(t, m)
			copy(want[a-api.DataBase:], c.want)
			if e := m.Store(uint64(a), c.k, c.x); e != api.OK {
				t.Errorf("Store(%d, %d, %x): %d", a, c.k, c.x, e)
			}
			if !bytes.Equal(all(t, m), want) {
				t.Errorf("Store(%d, %d, %x): other bytes than its own, or not its own", a, c.k, c.x)
			}
		}
	}
}

// P2.2: the first error that the chapter lists; nothing has changed beside one.
func TestWordErrors(t *testing.T) {
	m := filled(t, 8192)
	before := all(t, m)
	for _, k := range noKinds {
		for _, a := range []uint64{0, 4096, 8192, top} {
			if x, e := m.Load(a, k); x != 0 || e != api.ErrWordKind {
				t.Errorf("Load(%d, %d): %d, %d", a, k, x, e)
			}
			if e := m.Store(a, k, top); e != api.ErrWordKind {
				t.Errorf("Store(%d, %d): %d", a, k, e)
			}
		}
	}
	for _, c := range []struct {
		k int
		x uint64
	}{
		{api.KindBool, 2}, {api.KindBool, top}, {api.KindI8, 128}, {api.KindI8, 255}, {api.KindU8, 256}, {api.KindU8, top}, {api.KindI16, 1 << 15}, {api.KindU16, 1 << 16}, {api.KindI32, 1 << 31}, {api.KindU32, 1 << 32},
	} {
		for _, a := range []uint64{0, 4096, 8192, top} {
			if e := m.Store(a, c.k, c.x); e != api.ErrWordForm {
				t.Errorf("Store(%d, %d, %x): %d", a, c.k, c.x, e)
			}
		}
	}
	if !bytes.Equal(all(t, m), before) {
		t.Error("a Store that was refused has changed bytes")
	}
}

// P2.2: words that lie outside, in part or whole, and those that lie just inside.
func TestWordBounds(t *testing.T) {
	for _, size := range []int{api.MinMemory, 8195, api.MaxMemory} {
		for _, k := range kinds {
			m := filled(t, size)
			before := all(t, m)
			n := uint64(word.Bytes(k))
			out := []uint64{0, 1, api.DataBase - n, api.DataBase - 1, uint64(size) - n + 1, uint64(size) - 1 + n, uint64(size), uint64(size) + 1, 1 << 32, 1<<32 + 5000, 1 << 63, 1<<63 + 5000, top - n, top - n + 1, top - 1, top}
			for _, a := range out {
				if x, e := m.Load(a, k); x != 0 || e != api.ErrMemFault {
					t.Errorf("size %d: Load(%d, %d): %d, %d", size, a, k, x, e)
				}
				if e := m.Store(a, k, 1); e != api.ErrMemFault {
					t.Errorf("size %d: Store(%d, %d): %d", size, a, k, e)
				}
			}
			if !bytes.Equal(all(t, m), before) {
				t.Errorf("size %d, kind %d: a Store outside has changed bytes", size, k)
			}
			for _, a := range []uint64{api.DataBase, uint64(size) - n} {
				if e := m.Store(a, k, 1); e != api.OK {
					t.Errorf("size %d: Store(%d, %d): %d", size, a, k, e)
				}
				if x, e := m.Load(a, k); x != 1 || e != api.OK {
					t.Errorf("size %d: Load(%d, %d): %d, %d", size, a, k, x, e)
				}
			}
		}
	}
}

// P2.3: bytes that lie there.
func TestGetPut(t *testing.T) {
	size := 8200
	m := filled(t, size)
	for _, c := range []struct{ a, n int }{{4096, 1}, {4096, size - 4096}, {5000, 7}, {size - 1, 1}, {size - 9, 9}} {
		b, e := m.Get(uint64(c.a), c.n)
		if e != api.OK || len(b) != c.n {
			t.Fatalf("Get(%d, %d): %d bytes, %d", c.a, c.n, len(b), e)
		}
		for i, x := range b {
			if x != mark(c.a+i) {
				t.Errorf("Get(%d, %d)[%d]: %d", c.a, c.n, i, x)
			}
		}
		want := all(t, m)
		for i := range b {
			b[i] ^= byte(i + 1)
			want[c.a-api.DataBase+i] = b[i]
		}
		if e := m.Put(uint64(c.a), b); e != api.OK {
			t.Errorf("Put(%d) of %d: %d", c.a, c.n, e)
		}
		if !bytes.Equal(all(t, m), want) {
			t.Errorf("Put(%d) of %d: other bytes than those", c.a, c.n)
		}
		m = filled(t, size)
	}
}

// P2.3: bytes that do not all lie there; none, which always do.
func TestGetPutBounds(t *testing.T) {
	m := filled(t, 8192)
	before := all(t, m)
	for _, c := range []struct {
		a uint64
		n int
	}{
		{4096, -1}, {4096, math.MinInt}, {0, -1}, {top, -1}, {4096, 4097}, {4096, math.MaxInt}, {4095, 1}, {4095, 2}, {0, 1}, {0, 8192}, {8192, 1}, {8191, 2}, {8193, 1}, {top, 1}, {top, 2}, {top - 7, 8}, {top - 4095, 8192}, {1 << 63, 1}, {1 << 32, 1}, {8192, math.MaxInt}, {5000, math.MaxInt - 4999},
	} {
		if b, e := m.Get(c.a, c.n); b != nil || e != api.ErrMemFault {
			t.Errorf("Get(%d, %d): %d bytes, %d", c.a, c.n, len(b), e)
		}
		if c.n > 0 && c.n < 1<<20 {
			if e := m.Put(c.a, make([]byte, c.n)); e != api.ErrMemFault {
				t.Errorf("Put(%d) of %d: %d", c.a, c.n, e)
			}
		}
	}
	for _, a := range []uint64{0, 1, 4095, 4096, 8191, 8192, 8193, 1 << 40, 1 << 63, top} {
		if b, e := m.Get(a, 0); len(b) != 0 || e != api.OK {
			t.Errorf("Get(%d, 0): %d bytes, %d", a, len(b), e)
		}
		if e := m.Put(a, nil); e != api.OK {
			t.Errorf("Put(%d) of nil: %d", a, e)
		}
		if e := m.Put(a, []byte{}); e != api.OK {
			t.Errorf("Put(%d) of none: %d", a, e)
		}
	}
	if !bytes.Equal(all(t, m), before) {
		t.Error("a Put that was refused, or of none, has changed bytes")
	}
}

// The chapter's example.
func TestExample(t *testing.T) {
	m := fresh(t, 8192)
	if e := m.Store(4096, api.KindI16, top-1); e != api.OK {
		t.Errorf("Store: %d", e)
	}
	if x, e := m.Load(4096, api.KindU16); x != 65534 || e != api.OK {
		t.Errorf("Load of U16: %d, %d", x, e)
	}
	if x, e := m.Load(4097, api.KindU8); x != 255 || e != api.OK {
		t.Errorf("Load of U8: %d, %d", x, e)
	}
}
