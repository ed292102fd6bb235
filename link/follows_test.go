package link

import (
	"bytes"
	"reflect"
	"slices"
	"testing"

	"gantry/api"
	"gantry/cisc"
	"gantry/risc"
)

// turns is a row of numbers that looks like chance, and is the same in every run.
type turns uint64

func (s *turns) below(n int) int {
	*s = *s*6364136223846793005 + 1442695040888963407
	return int(uint64(*s) >> 33 % uint64(n))
}

func decoded(t *testing.T, img api.Image, at int) (api.Inst, int) {
	t.Helper()
	decode := risc.Decode
	if img.Target == api.TargetC {
		decode = cisc.Decode
	}
	i, n, e := decode(img.Code[at:])
	if e != api.OK {
		t.Fatalf("at %d: error %d", at, e)
	}
	return i, n
}

// plain is an instruction of either target that leads nowhere.
func (s *turns) plain() api.Inst {
	switch s.below(5) {
	case 0:
		return api.Inst{Op: api.InstMovI, A: s.below(16), Imm: int64(s.below(300))}
	case 1:
		return api.Inst{Op: api.InstMov, A: s.below(16), B: s.below(16)}
	case 2:
		return api.Inst{Op: api.InstLoad, A: s.below(16), B: s.below(16), K: api.KindU16, Imm: int64(s.below(90))}
	case 3:
		return api.Inst{Op: api.InstPanic, Imm: 1 + int64(s.below(9))}
	}
	return api.Inst{Op: api.InstRet}
}

func (s *turns) jump(target, labels int) api.Inst {
	i := api.Inst{Op: api.InstJmp, Label: s.below(labels)}
	switch {
	case s.below(2) == 0:
	case target == api.TargetC:
		i.Op, i.Sub = api.InstJcc, api.BinEq+s.below(6)
	default:
		i.Op, i.A = api.InstJnz+s.below(2), s.below(16)
	}
	return i
}

// piece is one of some instructions, at most so many of them jumps.
func (s *turns) piece(target, pieces, length, jumps int) api.Piece {
	p := api.Piece{Out: s.below(5) - 2}
	for range 1 + s.below(6) {
		p.Marks = append(p.Marks, s.below(length+1))
	}
	for range length {
		switch n := s.below(20); {
		case n < 5 && jumps > 0:
			p.Insts = append(p.Insts, s.jump(target, len(p.Marks)))
			jumps--
		case n == 5:
			p.Insts = append(p.Insts, call(s.below(pieces)))
		default:
			p.Insts = append(p.Insts, s.plain())
		}
	}
	return p
}

func (s *turns) pieces(target int) []api.Piece {
	l := make([]api.Piece, 1+s.below(4))
	for n := range l {
		l[n] = s.piece(target, len(l), s.below(120), 60)
	}
	return l
}

// TestDecoded: P6.1, P6.2: the code, decoded from each piece's beginning on, is its instructions, whose Imms lead to the labels' instructions, and to pieces.
func TestDecoded(t *testing.T) {
	s := turns(1)
	for range 2000 {
		target := api.TargetR + s.below(2)
		pieces := s.pieces(target)
		img := linked(t, target, pieces, []byte{1, 2, 3}, s.below(len(pieces)))
		if len(img.Funcs) != len(pieces) || !bytes.Equal(img.Data, []byte{1, 2, 3}) {
			t.Fatalf("%+v", img)
		}
		at := 0
		for k, p := range pieces {
			if img.Funcs[k] != at {
				t.Fatalf("piece %d begins at %d, not at %d", k, img.Funcs[k], at)
			}
			at = follow(t, img, p, at)
		}
		if at != len(img.Code) {
			t.Fatalf("%d bytes, not %d", len(img.Code), at)
		}
	}
}

// follow decodes a piece at its beginning, holds it against what it was, and tells its end.
func follow(t *testing.T, img api.Image, p api.Piece, at int) int {
	t.Helper()
	var got []api.Inst
	starts := []int{at}
	for range p.Insts {
		i, n := decoded(t, img, at)
		at += n
		got, starts = append(got, i), append(starts, at)
	}
	for n, want := range p.Insts {
		switch want.Op {
		case api.InstJmp, api.InstJnz, api.InstJz, api.InstJcc:
			want.Imm = int64(starts[p.Marks[want.Label]] - starts[n+1])
		case api.InstCall:
			want.Imm = int64(img.Funcs[want.Label] - starts[n+1])
		}
		want.Label = 0
		if got[n] != want {
			t.Fatalf("instruction %d: %+v, not %+v", n, got[n], want)
		}
	}
	return at
}

func bare(i api.Inst) api.Inst {
	i.Label = 0
	return i
}

// bytesWith tells where instructions begin (and the end) if the jumps that chosen names are long, and whether each Imm fits then.
func bytesWith(p api.Piece, size, jumps []int, chosen int) (starts []int, fits bool) {
	for k, n := range jumps {
		size[n] = 3 + 3*(chosen>>k&1)
	}
	starts = make([]int, 1, len(size)+1)
	for n := range size {
		starts = append(starts, starts[n]+size[n])
	}
	for _, n := range jumps {
		imm := starts[p.Marks[p.Insts[n].Label]] - starts[n+1]
		if size[n] == 3 && (imm < -128 || imm > 127) {
			return nil, false
		}
	}
	return starts, true
}

// TestLeast: P6.1: of all ways to choose sizes, each one tried, the one in which each jump has the least size that it has in any.
func TestLeast(t *testing.T) {
	s := turns(2)
	long := map[bool]int{}
	for range 1500 {
		p := s.piece(api.TargetC, 1, 30+s.below(50), 9)
		var size, jumps []int
		for n, i := range p.Insts {
			b, _ := cisc.Encode(bare(i))
			size = append(size, len(b))
			if i.Op == api.InstJmp || i.Op == api.InstJcc {
				jumps = append(jumps, n)
			}
		}
		least := -1
		for chosen := range 1 << len(jumps) {
			if _, fits := bytesWith(p, size, jumps, chosen); fits {
				least &= chosen
			}
		}
		starts, fits := bytesWith(p, size, jumps, least)
		if !fits {
			t.Fatalf("the least of all ways is none: %+v", p)
		}
		img := linked(t, api.TargetC, []api.Piece{p}, nil, 0)
		at := 0
		for n := range p.Insts {
			if at != starts[n] {
				t.Fatalf("instruction %d at %d, not at %d: %+v", n, at, starts[n], p)
			}
			_, size := decoded(t, img, at)
			at += size
		}
		for k := range jumps {
			long[least>>k&1 == 1]++
		}
	}
	if long[true] < 1000 || long[false] < 1000 {
		t.Errorf("too few jumps of a size: %v", long)
	}
}

// TestNearer: P6.2: pieces whose jumps go less far are no longer: labels are moved nearer, one jump at a time.
func TestNearer(t *testing.T) {
	s := turns(3)
	shorter := 0
	for range 1000 {
		p := s.piece(api.TargetC, 1, 60+s.below(80), 40)
		own := api.Piece{Insts: slices.Clone(p.Insts)} // each jump has a label of its own
		for n, i := range own.Insts {
			if isJump(i) {
				own.Insts[n].Label = len(own.Marks)
				own.Marks = append(own.Marks, p.Marks[i.Label])
			}
		}
		before := len(linked(t, api.TargetC, []api.Piece{own}, nil, 0).Code)
		if far := len(linked(t, api.TargetC, []api.Piece{p}, nil, 0).Code); far != before {
			t.Fatalf("labels that stand at one place: %d bytes, not %d", before, far)
		}
		for n, i := range own.Insts {
			if to := &own.Marks[i.Label%max(1, len(own.Marks))]; isJump(i) && s.below(3) == 0 {
				if *to > n+1 {
					*to -= s.below(*to - n)
				} else if *to < n {
					*to += s.below(n - *to + 1)
				}
			}
		}
		after := len(linked(t, api.TargetC, []api.Piece{own}, nil, 0).Code)
		if after > before {
			t.Fatalf("%d bytes, nearer %d", before, after)
		}
		if after < before {
			shorter++
		}
	}
	if shorter < 100 {
		t.Errorf("shorter in %d alone", shorter)
	}
}

// TestShared: R1, R2: what is handed in stays as it is; what is told is new memory each time, and the same.
func TestShared(t *testing.T) {
	s := turns(4)
	for range 50 {
		target := api.TargetR + s.below(2)
		pieces, data := s.pieces(target), []byte{1, 2, 3, 4}
		copies := make([]api.Piece, len(pieces))
		for n, p := range pieces {
			copies[n] = api.Piece{Insts: slices.Clone(p.Insts), Marks: slices.Clone(p.Marks), Out: p.Out}
		}
		first := linked(t, target, pieces, data[:3], 0)
		second := linked(t, target, pieces, data[:3], 0)
		if !reflect.DeepEqual(first, second) {
			t.Fatalf("two calls: %+v, %+v", first, second)
		}
		spoil(first)
		if third := linked(t, target, pieces, data[:3], 0); !reflect.DeepEqual(third, second) || !bytes.Equal(data, []byte{1, 2, 3, 4}) {
			t.Fatalf("what was told is kept, or shared")
		}
		for n, p := range pieces {
			if !slices.Equal(p.Insts, copies[n].Insts) || !slices.Equal(p.Marks, copies[n].Marks) || p.Out != copies[n].Out {
				t.Fatalf("piece %d has changed", n)
			}
		}
	}
}

// spoil overwrites what an image has, its spare room too.
func spoil(img api.Image) {
	for _, l := range [][]byte{img.Code[:cap(img.Code)], img.Data[:cap(img.Data)]} {
		for n := range l {
			l[n] = 0xaa
		}
	}
	for n := range img.Funcs[:cap(img.Funcs)] {
		img.Funcs[:cap(img.Funcs)][n] = -5
	}
}
