package cisc

import (
	"bytes"
	"testing"

	"gantry/api"
)

// checkBytes holds Decode of b against the model, and Encode of what it took against b.
func checkBytes(t *testing.T, b []byte) {
	t.Helper()
	i, n, e := Decode(b)
	if j, m, f := modelDecode(b); i != j || n != m || e != f {
		t.Errorf("Decode(% x): %+v, %d, %d, want %+v, %d, %d", b, i, n, e, j, m, f)
		return
	}
	if e != api.OK {
		return
	}
	if back, e := Encode(i); e != api.OK || !bytes.Equal(back, b[:n]) {
		t.Errorf("Encode(%+v): % x, %d, want % x", i, back, e, b[:n])
	}
}

// TestDecodeBytes: P4.1, P4.2; each byte of each row's examples with each value, and every beginning of that.
func TestDecodeBytes(t *testing.T) {
	for _, c := range examples() {
		for at := range c.b {
			for x := range 256 {
				b := append(bytes.Clone(c.b), 0, 0, 0, 0, 0, 0, 0)
				b[at] = byte(x)
				for n := range len(b) + 1 {
					checkBytes(t, b[:n:n])
				}
			}
		}
	}
}

// TestDecodePairs: P4.1, P4.2; two bytes of each row's examples, with values that are a little off.
func TestDecodePairs(t *testing.T) {
	some := []byte{0, 1, 2, 3, 4, 5, 6, 9, 10, 11, 12, 15, 16, 17, 0x1f, 0x20, 0x50, 0x60, 127, 128, 0xf0, 0xff}
	for _, c := range examples() {
		for one := range c.b {
			for two := one + 1; two < len(c.b); two++ {
				for _, x := range some {
					for _, y := range some {
						b := bytes.Clone(c.b)
						b[one], b[two] = x, y
						checkBytes(t, b)
					}
				}
			}
		}
	}
}

// TestDecodeFew: P4.1; all that has up to two bytes, and of three the codes that are whole with them.
func TestDecodeFew(t *testing.T) {
	checkBytes(t, nil)
	for x := range 256 {
		checkBytes(t, []byte{byte(x)})
		for y := range 256 {
			checkBytes(t, []byte{byte(x), byte(y)})
		}
	}
	for _, code := range []byte{api.InstMovI, api.InstSel, api.InstCmp, api.InstSet, api.InstJmp, api.InstJcc} {
		for y := range 256 {
			for z := range 256 {
				checkBytes(t, []byte{code, byte(y), byte(z)})
			}
		}
	}
}

// TestDecodeWrong: P4.1; wrong bytes, and which error comes first, told one by one.
func TestDecodeWrong(t *testing.T) {
	form, short := api.ErrCiscForm, api.ErrCiscShort
	for _, c := range []struct {
		b []byte
		e api.Errno
	}{
		{nil, short}, {[]byte{}, short}, {[]byte{0}, form}, {[]byte{2}, form}, {[]byte{9, 0, 0}, form}, {[]byte{20}, form}, {[]byte{21}, form}, {[]byte{30}, form}, {[]byte{255}, form},
		{[]byte{1}, short}, {[]byte{1, 0x31, 5, 0, 0, 0}, form}, {[]byte{1, 0x31, 0x80}, short}, {[]byte{1, 0x31, 5, 0, 0}, short}, {[]byte{1, 0x32, 5, 0, 0, 0, 0, 0, 0}, short}, {[]byte{1, 0x32, 5, 0, 0, 0, 0, 0, 0, 0}, form}, {[]byte{1, 0x32, 0, 0, 0, 0x80, 0xff, 0xff, 0xff, 0xff}, form}, {[]byte{1, 0x31, 0xff, 0xff, 0xff, 0xff}, form}, {[]byte{1, 0x33}, form}, {[]byte{1, 0x3f}, form},
		{[]byte{4, 0x25, 5}, short}, {[]byte{4, 0x25, 0}, short}, {[]byte{4, 0x25, 0, 1}, form}, {[]byte{4, 0x25, 5, 0}, form}, {[]byte{4, 0x25, 5, 17}, form}, {[]byte{4, 0x25, 5, 4}, form}, {[]byte{4, 0x25, 5, 9}, form}, {[]byte{4, 0x25, 255, 255}, form},
		{[]byte{5, 0x12}, form}, {[]byte{5, 0x13}, form}, {[]byte{5, 0x11, 0, 0}, short}, {[]byte{5, 0x11, 0, 0, 1, 2, 3}, short}, {[]byte{5, 0x11, 0, 0, 1, 2, 3, 4}, form}, {[]byte{5, 0x10, 6, 1, 0xff}, form}, {[]byte{5, 0x11, 6, 1, 0, 1, 0, 0}, form}, {[]byte{5, 0x10, 5, 4, 1}, form},
		{[]byte{6, 0, 0, 0, 0, 0, 0}, short}, {[]byte{6, 0, 5, 4, 0, 0, 0, 0}, form}, {[]byte{6, 1, 5, 9, 0, 0, 0, 0}, form},
		{[]byte{7, 1, 5}, short}, {[]byte{7, 1, 5, 1}, form}, {[]byte{7, 0, 5, 2}, form}, {[]byte{8, 0, 5, 11}, form}, {[]byte{8, 0, 11, 5}, form},
		{[]byte{10, 0, 4, 0, 0, 0}, short}, {[]byte{10, 0, 4, 0, 0, 0, 0}, form}, {[]byte{10, 0, 14, 0, 0, 0, 0}, form}, {[]byte{10, 0, 0x1f, 0, 0, 0, 0}, form}, {[]byte{11, 0, 0, 0, 0, 0, 0}, form}, {[]byte{13, 0, 12, 0, 0, 0, 0}, form}, {[]byte{12, 0, 15, 2, 0, 0, 0, 0}, form}, {[]byte{14, 0, 0, 12, 0, 0, 0, 0}, form}, {[]byte{14, 0, 4, 2, 0, 0, 0, 0}, form},
		{[]byte{15, 0, 10}, form}, {[]byte{15, 0, 17}, form}, {[]byte{16, 0, 0}, form}, {[]byte{16, 0, 12}, form}, {[]byte{17, 0x12}, form}, {[]byte{17, 0x10, 10, 1}, form}, {[]byte{17, 0x10, 6, 0x80}, form}, {[]byte{18, 1, 11}, form}, {[]byte{18, 0x10, 1}, form},
		{[]byte{19, 2}, form}, {[]byte{19, 16}, form}, {[]byte{19, 0x11}, form}, {[]byte{19, 1, 1, 0, 0}, short}, {[]byte{19, 1, 1, 0, 0, 0}, form}, {[]byte{22, 2}, form}, {[]byte{22, 0x53}, form}, {[]byte{22, 0x60}, short}, {[]byte{22, 0x60, 1}, form}, {[]byte{22, 0xf1, 1, 0, 0}, short}, {[]byte{22, 0x62}, form},
		{[]byte{25, 0xff, 0xff, 0xff, 0xff}, form}, {[]byte{29, 0, 0, 0}, short}, {[]byte{29, 0, 0, 0, 0}, form}, {[]byte{29, 0, 0, 0, 0x80}, form}, {[]byte{27}, short}, {[]byte{27, 1}, form}, {[]byte{28, 0xff}, form},
	} {
		if i, n, e := Decode(c.b); i != (api.Inst{}) || n != 0 || e != c.e {
			t.Errorf("Decode(% x): %+v, %d, %d, want %d", c.b, i, n, e, c.e)
		}
	}
}

// TestBeginnings: P4.2; what an instruction's bytes begin with is short, and what stands behind them is not looked at: so none's bytes begin another one's.
func TestBeginnings(t *testing.T) {
	for _, c := range examples() {
		for n := range c.b {
			if i, far, e := Decode(c.b[:n:n]); i != (api.Inst{}) || far != 0 || e != api.ErrCiscShort {
				t.Errorf("Decode(% x): %+v, %d, %d", c.b[:n], i, far, e)
			}
			if i, far, e := Decode(c.b[:n]); i != (api.Inst{}) || far != 0 || e != api.ErrCiscShort {
				t.Errorf("Decode(% x), with spare room: %+v, %d, %d", c.b[:n], i, far, e)
			}
		}
		for x := range 256 {
			long := append(bytes.Clone(c.b), byte(x), 0xff)
			if i, n, e := Decode(long); i != c.i || n != len(c.b) || e != api.OK {
				t.Errorf("Decode(% x): %+v, %d, %d", long, i, n, e)
			}
		}
	}
}

// turns is a row of numbers that looks like chance, and is the same in every run.
type turns uint64

func (s *turns) below(n int) int {
	*s = *s*6364136223846793005 + 1442695040888963407
	return int(uint64(*s) >> 33 % uint64(n))
}

// inst is an instruction, or nearly one.
func (s *turns) inst() api.Inst {
	i := api.Inst{Op: s.below(31)}
	parts, _ := partsOf(i.Op)
	for n, bound := range []int{16, 16, 16, 12, 17, 9} {
		if f := fieldNames[n]; names(parts, f) {
			i = with(i, f, int64(s.below(bound)))
		}
	}
	if i.Op == api.InstBin && s.below(2) == 0 {
		i.A, i.B = 0, s.below(4)
	}
	if names(parts, "Imm") {
		i.Imm = int64(s.below(1<<31)<<33|s.below(1<<31)<<2) >> s.below(64)
	}
	return i
}

// TestThereAndBack: P4.2, many instructions, many bytes, few of them wrong.
func TestThereAndBack(t *testing.T) {
	s := turns(4)
	taken := map[int]int{}
	for range 60000 {
		i := s.inst()
		check(t, i)
		if !modelIs(i) {
			continue
		}
		taken[i.Op]++
		b := modelBytes(i)
		b[s.below(len(b))] ^= byte(s.below(256))
		checkBytes(t, b)
		checkBytes(t, b[:s.below(len(b))])
	}
	for _, r := range modelRows {
		for _, code := range r.codes {
			if taken[code] < 50 {
				t.Errorf("no more than %d instructions of the code %d", taken[code], code)
			}
		}
	}
}

// TestInARow: P4.2; the bytes of many, one behind the other, are told apart again.
func TestInARow(t *testing.T) {
	s := turns(44)
	var all []api.Inst
	var code []byte
	for len(all) < 5000 {
		i := s.inst()
		if b, e := Encode(i); e == api.OK {
			all, code = append(all, i), append(code, b...)
		}
	}
	for at, want := range all {
		i, n, e := Decode(code)
		if i != want || e != api.OK {
			t.Fatalf("the instruction %d: %+v, %d, want %+v", at, i, e, want)
		}
		code = code[n:]
	}
	if len(code) != 0 {
		t.Errorf("% x left", code)
	}
}

// TestMoreBytes: P4.2; what is no instruction stays none with more bytes, what is one stays it.
func TestMoreBytes(t *testing.T) {
	s := turns(444)
	for range 20000 {
		var b []byte
		for range 12 {
			b = append(b, byte(s.below(256)>>s.below(8)))
		}
		known := api.ErrCiscShort
		for n := range len(b) + 1 {
			_, far, e := Decode(b[:n])
			if known != api.ErrCiscShort && e != known || e == api.OK && far > n {
				t.Fatalf("Decode(% x): %d, %d, behind %d", b[:n], far, e, known)
			}
			known = e
		}
		if known == api.ErrCiscShort {
			t.Fatalf("Decode(% x): short", b)
		}
	}
}

// TestNothingShared: R1, R2; bytes handed in stay, bytes told are the caller's own, their spare room too.
func TestNothingShared(t *testing.T) {
	for _, c := range examples() {
		one, _ := Encode(c.i)
		full := one[:cap(one)]
		for at := range full {
			full[at] = 0xaa
		}
		if again, e := Encode(c.i); e != api.OK || !bytes.Equal(again, c.b) {
			t.Errorf("Encode(%+v) once more: % x, %d", c.i, again, e)
		}
		b := append(bytes.Clone(c.b), 1, 2, 3)
		held := bytes.Clone(b)
		i, _, _ := Decode(b)
		if !bytes.Equal(b, held) {
			t.Errorf("Decode has changed % x to % x", held, b)
		}
		clear(b)
		if i != c.i {
			t.Errorf("%+v, behind a change of its bytes: %+v", c.i, i)
		}
	}
}
