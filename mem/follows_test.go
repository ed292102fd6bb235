package mem

import (
	"bytes"
	"encoding/binary"
	"math/rand"
	"testing"

	"gantry/api"
	"gantry/word"
)

// edges are words of k at and beside the ends of what it has, and some between.
func edges(k int) []uint64 {
	var told []uint64
	for _, x := range []uint64{0, 1, 2, 0x7f, 0x80, 0xff, 0x7fff, 0x8000, 0xffff, 1<<31 - 1, 1 << 31, 1<<32 - 1, 1<<63 - 1, 1 << 63, 0x7ff8000000000000, 0x7ff0000000000001, 0x1122334455667788, top - 1, top} {
		told = append(told, word.Canon(k, x))
	}
	return told
}

// P2.4: Load of what was stored is that.
func TestLoadOfStored(t *testing.T) {
	m := filled(t, 8192)
	for _, k := range kinds {
		for _, x := range edges(k) {
			for _, a := range []uint64{4096, 4097, 6002, 6003, 8192 - uint64(word.Bytes(k))} {
				if e := m.Store(a, k, x); e != api.OK {
					t.Fatalf("Store(%d, %d, %x): %d", a, k, x, e)
				}
				if y, e := m.Load(a, k); y != x || e != api.OK {
					t.Errorf("Load(%d, %d): %x, %d, not %x", a, k, y, e, x)
				}
			}
		}
	}
}

// P2.4: what lies apart stays: a word beside one that is stored, of whatever kinds.
func TestApart(t *testing.T) {
	for _, k := range kinds {
		for _, other := range kinds {
			m := filled(t, 8192)
			n, beside := uint64(word.Bytes(k)), uint64(word.Bytes(other))
			a := uint64(6001)
			below, _ := m.Load(a-beside, other)
			above, _ := m.Load(a+n, other)
			for _, x := range edges(k) {
				m.Store(a, k, x)
				if y, e := m.Load(a-beside, other); y != below || e != api.OK {
					t.Errorf("Store of %d: %d below it: %x, %d", k, other, y, e)
				}
				if y, e := m.Load(a+n, other); y != above || e != api.OK {
					t.Errorf("Store of %d: %d above it: %x, %d", k, other, y, e)
				}
			}
		}
	}
}

// P2.4, R2: bytes handed in are neither kept nor changed, bytes told are new, their spare room too.
func TestNothingShared(t *testing.T) {
	m := filled(t, 8192)
	in := []byte{1, 2, 3, 4, 5}
	m.Put(5000, in[:3])
	if !bytes.Equal(in, []byte{1, 2, 3, 4, 5}) {
		t.Errorf("Put has changed what it was given: %d", in)
	}
	before := all(t, m)
	in[0], in[1] = 77, 78
	first, _ := m.Get(5000, 3)
	second, _ := m.Get(5000, 3)
	for i := range first {
		first[i] = 99
	}
	for i := range first[:cap(first)] {
		first[:cap(first)][i] = 98
	}
	_ = append(first, 1, 2, 3)
	if !bytes.Equal(second, []byte{1, 2, 3}) {
		t.Errorf("two answers have bytes in common: %d", second)
	}
	if !bytes.Equal(all(t, m), before) {
		t.Error("the memory has bytes in common with what was handed in, or told")
	}
	m.Put(5000, []byte{6, 6, 6})
	if !bytes.Equal(second, []byte{1, 2, 3}) {
		t.Errorf("an answer has changed: %d", second)
	}
}

// P2.4: two memories have nothing in common.
func TestTwoMemories(t *testing.T) {
	m, other := fresh(t, 8192), fresh(t, 8192)
	for a := uint64(4096); a < 8192; a += 8 {
		m.Store(a, api.KindU64, top)
	}
	if b := all(t, other); bytes.Count(b, []byte{0}) != len(b) {
		t.Error("a Store into one memory is to be seen in another")
	}
	b, _ := m.Get(4096, 4096)
	other.Put(4096, b)
	other.Store(5000, api.KindU64, 0)
	if x, _ := m.Load(5000, api.KindU64); x != top {
		t.Errorf("a Store into the other memory is to be seen: %x", x)
	}
}

// P2.4: many calls, held against bytes that are kept beside.
func TestManyCalls(t *testing.T) {
	r := rand.New(rand.NewSource(2))
	const size = api.MinMemory + 5
	m := fresh(t, size)
	model := make([]byte, size)
	for i := range 200000 {
		a := api.DataBase - 12 + r.Intn(64)
		if r.Intn(2) == 0 {
			a = size - 40 + r.Intn(64)
		}
		k := kinds[r.Intn(len(kinds))]
		n := word.Bytes(k)
		switch r.Intn(4) {
		case 0:
			want, e := modelLoad(model, a, k)
			if x, got := m.Load(uint64(a), k); x != want || got != e {
				t.Fatalf("%d: Load(%d, %d): %x, %d, not %x, %d", i, a, k, x, got, want, e)
			}
		case 1:
			x := word.Canon(k, r.Uint64())
			e := api.ErrMemFault
			if inside(a, n) {
				e = api.OK
				copy(model[a:a+n], binary.LittleEndian.AppendUint64(nil, x))
			}
			if got := m.Store(uint64(a), k, x); got != e {
				t.Fatalf("%d: Store(%d, %d, %x): %d, not %d", i, a, k, x, got, e)
			}
		case 2:
			n = r.Intn(24)
			b, got := m.Get(uint64(a), n)
			if inside(a, n) != (got == api.OK) || got == api.OK && n > 0 && !bytes.Equal(b, model[a:a+n]) {
				t.Fatalf("%d: Get(%d, %d): %d, %d", i, a, n, b, got)
			}
		case 3:
			b := make([]byte, r.Intn(24))
			r.Read(b)
			got := m.Put(uint64(a), b)
			if inside(a, len(b)) != (got == api.OK) {
				t.Fatalf("%d: Put(%d) of %d: %d", i, a, len(b), got)
			}
			if got == api.OK && len(b) > 0 {
				copy(model[a:], b)
			}
		}
	}
	if !bytes.Equal(all(t, m), model[api.DataBase:]) {
		t.Error("in the end other bytes stand there")
	}
}

func inside(a, n int) bool {
	return n == 0 || a >= api.DataBase && a+n <= api.MinMemory+5
}

func modelLoad(model []byte, a, k int) (uint64, api.Errno) {
	n := word.Bytes(k)
	if !inside(a, n) {
		return 0, api.ErrMemFault
	}
	whole := make([]byte, 8)
	copy(whole, model[a:a+n])
	return word.Canon(k, binary.LittleEndian.Uint64(whole)), api.OK
}
