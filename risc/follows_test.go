package risc

import (
	"bytes"
	"testing"

	"gantry/api"
)

// modelInst is the instruction whose bytes b are, if there is one: what the table names is taken from where it lies.
func modelInst(b []byte) (api.Inst, bool) {
	r, ok := modelRow(int(b[0]))
	if !ok {
		return api.Inst{}, false
	}
	i := api.Inst{Op: int(b[0])}
	for n, f := range []string{"A", "B", r.third} {
		if r.names(f) {
			i = with(i, f, int64(b[n+1]))
		}
	}
	switch r.number {
	case "Imm":
		i.Imm = int64(b[4]) + int64(b[5])<<8 + int64(b[6])<<16 + int64(int8(b[7]))<<24
	case "K Sub":
		i.K, i.Sub = int(b[4]), int(b[5])
	}
	return i, modelIs(i) && bytes.Equal(modelBytes(i), b[:8])
}

// checkBytes holds Decode of b against the model, and Encode of what it took against b.
func checkBytes(t *testing.T, b []byte) {
	t.Helper()
	i, n, e := Decode(b)
	want, ok := modelInst(b)
	if !ok {
		if i != (api.Inst{}) || n != 0 || e != api.ErrRiscForm {
			t.Errorf("Decode(% x): %+v, %d, %d, want ErrRiscForm", b, i, n, e)
		}
		return
	}
	if i != want || n != 8 || e != api.OK {
		t.Errorf("Decode(% x): %+v, %d, %d, want %+v", b, i, n, e, want)
		return
	}
	if back, e := Encode(i); e != api.OK || !bytes.Equal(back, b[:8]) {
		t.Errorf("Encode(%+v): % x, %d, want % x", i, back, e, b[:8])
	}
}

// TestDecodeBytes: P3.1, P3.2; each byte of each row's examples with each value.
func TestDecodeBytes(t *testing.T) {
	for _, c := range examples() {
		for at := range 8 {
			for x := range 256 {
				b := bytes.Clone(c.b)
				b[at] = byte(x)
				checkBytes(t, b)
			}
		}
	}
}

// TestDecodeNumbers: P3.1, P3.2; K and Sub with each pair of bytes, and bytes behind them that must be 0.
func TestDecodeNumbers(t *testing.T) {
	for _, code := range []byte{api.InstBin, api.InstUn, api.InstConv} {
		for k := range 256 {
			for sub := range 256 {
				checkBytes(t, []byte{code, 1, 2, 0, byte(k), byte(sub), 0, 0})
			}
		}
		for _, upper := range [][2]byte{{1, 0}, {0, 1}, {0, 0x80}, {0xff, 0xff}} {
			checkBytes(t, []byte{code, 1, 2, 0, api.KindI64, 1, upper[0], upper[1]})
		}
	}
}

// TestDecodeWrong: P3.1, wrong bytes told one by one.
func TestDecodeWrong(t *testing.T) {
	for _, b := range [][]byte{
		{0, 0, 0, 0, 0, 0, 0, 0}, {5, 1, 0, 0, 5, 1, 0, 0}, {30, 0, 0, 0, 0, 0, 0, 0}, {255, 255, 255, 255, 255, 255, 255, 255},
		{1, 16, 0, 0, 0, 0, 0, 0}, {1, 0, 1, 0, 0, 0, 0, 0}, {3, 0, 16, 0, 0, 0, 0, 0}, {3, 0, 0, 0, 1, 0, 0, 0}, {3, 0, 0, 0, 0, 0, 0, 1},
		{4, 0, 0, 16, 5, 1, 0, 0}, {4, 0, 0, 0, 5, 0, 0, 0}, {4, 0, 0, 0, 5, 17, 0, 0}, {4, 0, 0, 0, 5, 1, 0, 0x80}, {7, 0, 0, 1, 5, 1, 0, 0}, {8, 0, 0, 0, 1, 5, 0, 0},
		{11, 0, 0, 0, 0, 0, 0, 0}, {13, 0, 0, 12, 0, 0, 0, 0}, {15, 0, 0, 0, 16, 0, 0, 0}, {15, 0, 0, 0, 0xff, 0xff, 0xff, 0xff}, {15, 0, 0, 0, 0, 1, 0, 0},
		{20, 1, 1, 0, 0, 0, 0, 0}, {24, 0, 0, 0, 1, 0, 0, 0}, {25, 0, 0, 0, 0xff, 0xff, 0xff, 0xff}, {27, 1, 0, 0, 1, 0, 0, 0}, {29, 0, 0, 0, 0, 0, 0, 0}, {29, 0, 0, 0, 0, 0, 0, 0x80},
	} {
		if i, n, e := Decode(b); i != (api.Inst{}) || n != 0 || e != api.ErrRiscForm {
			t.Errorf("Decode(% x): %+v, %d, %d", b, i, n, e)
		}
	}
}

// TestDecodeShort: P3.1; too few bytes, and that this comes ahead of their form; what stands behind the 8 is not looked at.
func TestDecodeShort(t *testing.T) {
	wrong := []byte{0, 99, 99, 99, 99, 99, 99, 99}
	for _, b := range append([][]byte{wrong}, examples()[0].b, examples()[3].b) {
		for n := range 8 {
			if i, far, e := Decode(b[:n:n]); i != (api.Inst{}) || far != 0 || e != api.ErrRiscShort {
				t.Errorf("Decode(% x): %+v, %d, %d", b[:n], i, far, e)
			}
		}
	}
	if _, _, e := Decode(nil); e != api.ErrRiscShort {
		t.Errorf("Decode(nil): %d", e)
	}
	for _, c := range examples() {
		long := append(bytes.Clone(c.b), wrong...)
		if i, n, e := Decode(long); i != c.i || n != 8 || e != api.OK {
			t.Errorf("Decode(% x): %+v, %d, %d", long, i, n, e)
		}
	}
}

// turns is a row of numbers that looks like chance, and is the same in every run.
type turns uint64

func (s *turns) below(n int) int {
	*s = *s*6364136223846793005 + 1442695040888963407
	return int(uint64(*s) >> 33 % uint64(n))
}

// TestThereAndBack: P3.2, many instructions, many bytes, few of them wrong.
func TestThereAndBack(t *testing.T) {
	s := turns(3)
	taken := 0
	for range 200000 {
		i := api.Inst{Op: s.below(31)}
		r, _ := modelRow(i.Op)
		bounds := []int{16, 16, 16, 12, 17}
		for n, f := range fieldNames[:5] {
			if r.names(f) {
				i = with(i, f, int64(s.below(bounds[n])))
			}
		}
		if r.names("Imm") {
			i.Imm = int64(int32(s.below(1<<31) << s.below(2)))
			if i.Op == api.InstSel {
				i.Imm = int64(s.below(17))
			}
		}
		check(t, i)
		if !modelIs(i) {
			continue
		}
		taken++
		b := modelBytes(i)
		b[s.below(8)] ^= byte(s.below(16))
		checkBytes(t, b)
	}
	if taken < 50000 {
		t.Errorf("no more than %d instructions", taken)
	}
}

// TestNothingShared: R1, R2; bytes handed in stay, bytes told are the caller's own, their spare room too.
func TestNothingShared(t *testing.T) {
	for _, c := range examples() {
		one, _ := Encode(c.i)
		full := one[:cap(one)]
		for at := range full {
			full[at] = 0xaa
		}
		if again, e := Encode(c.i); e != api.OK || !bytes.Equal(again, c.b) {
			t.Errorf("Encode(%+v) once more: % x, %d", c.i, again, e)
		}
		b := append(bytes.Clone(c.b), 1, 2, 3)
		held := bytes.Clone(b)
		i, _, _ := Decode(b)
		if !bytes.Equal(b, held) {
			t.Errorf("Decode has changed % x to % x", held, b)
		}
		clear(b)
		if i != c.i {
			t.Errorf("%+v, behind a change of its bytes: %+v", c.i, i)
		}
	}
}
