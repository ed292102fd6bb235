package link

import (
	"bytes"
	"slices"
	"testing"

	"gantry/api"
	"gantry/run"
)

// rets is n instructions of one byte each on C64.
func rets(n int) []api.Inst { return slices.Repeat([]api.Inst{{Op: api.InstRet}}, n) }

func joined(l ...[]api.Inst) []api.Inst { return slices.Concat(l...) }

func jmp(label int) api.Inst { return api.Inst{Op: api.InstJmp, Label: label} }

func jcc(sub, label int) api.Inst { return api.Inst{Op: api.InstJcc, Sub: sub, Label: label} }

func call(piece int) api.Inst { return api.Inst{Op: api.InstCall, Label: piece} }

func linked(t *testing.T, target int, pieces []api.Piece, data []byte, entry int) api.Image {
	t.Helper()
	img, e := Link(target, pieces, data, entry)
	if e != api.OK {
		t.Fatalf("error %d", e)
	}
	return img
}

// TestBytesR: P6.1: jumps of each kind and calls of R64, ahead, backwards and to the end, in literal bytes.
func TestBytesR(t *testing.T) {
	pieces := []api.Piece{
		{Insts: []api.Inst{jmp(1), {Op: api.InstJnz, A: 3, Label: 0}, {Op: api.InstJz, A: 15, Label: 2}, call(1), {Op: api.InstRet}}, Marks: []int{0, 5, 3}},
		{Insts: []api.Inst{call(0), call(1), call(2), jmp(0)}, Marks: []int{3}, Out: -7},
		{},
	}
	img := linked(t, api.TargetR, pieces, []byte{9}, 1)
	code := []byte{
		19, 0, 0, 0, 32, 0, 0, 0,
		20, 3, 0, 0, 0xf0, 0xff, 0xff, 0xff,
		21, 15, 0, 0, 0, 0, 0, 0,
		23, 0, 0, 0, 8, 0, 0, 0,
		24, 0, 0, 0, 0, 0, 0, 0,
		23, 0, 0, 0, 0xd0, 0xff, 0xff, 0xff,
		23, 0, 0, 0, 0xf0, 0xff, 0xff, 0xff,
		23, 0, 0, 0, 8, 0, 0, 0,
		19, 0, 0, 0, 0xf8, 0xff, 0xff, 0xff,
	}
	if !bytes.Equal(img.Code, code) {
		t.Errorf("code % x", img.Code)
	}
	if img.Target != api.TargetR || img.Entry != 40 || !slices.Equal(img.Funcs, []int{0, 40, 72}) || !bytes.Equal(img.Data, []byte{9}) {
		t.Errorf("%+v", img)
	}
}

// TestBytesC: P6.1: jumps of each kind and calls of C64, in literal bytes.
func TestBytesC(t *testing.T) {
	pieces := []api.Piece{
		{},
		{Insts: []api.Inst{jmp(1), jcc(api.BinEq, 0), jcc(api.BinGe, 2), call(3), {Op: api.InstRet}}, Marks: []int{0, 5, 3}},
		{},
		{Insts: []api.Inst{call(1), call(3), call(4), jmp(0)}, Marks: []int{3}, Out: 64},
		{Insts: []api.Inst{{Op: api.InstEmit, A: 2}}},
	}
	img := linked(t, api.TargetC, pieces, nil, 4)
	code := []byte{
		19, 0, 12,
		22, 0, 0xfa,
		22, 0x50, 0,
		23, 1, 0, 0, 0,
		24,
		23, 0xec, 0xff, 0xff, 0xff,
		23, 0xf6, 0xff, 0xff, 0xff,
		23, 3, 0, 0, 0,
		19, 0, 0xfd,
		27, 0x20,
	}
	if !bytes.Equal(img.Code, code) {
		t.Errorf("code % x", img.Code)
	}
	if img.Target != api.TargetC || img.Entry != 33 || !slices.Equal(img.Funcs, []int{0, 0, 15, 15, 33}) || len(img.Data) != 0 {
		t.Errorf("%+v", img)
	}
}

// TestReach: P6.1, its edges: how far a jump of one byte reaches, ahead and backwards, of both kinds; R64's are always 8 bytes.
func TestReach(t *testing.T) {
	for _, c := range []struct {
		back      bool
		over      int
		size, imm int
	}{
		{false, 0, 3, 0}, {false, 126, 3, 126}, {false, 127, 3, 127}, {false, 128, 6, 128}, {false, 129, 6, 129}, {false, 1000, 6, 1000},
		{true, 0, 3, -3}, {true, 124, 3, -127}, {true, 125, 3, -128}, {true, 126, 6, -132}, {true, 127, 6, -133}, {true, 128, 6, -134}, {true, 1000, 6, -1006},
	} {
		for _, j := range []api.Inst{jmp(0), jcc(api.BinNe, 0)} {
			p, at := api.Piece{Insts: joined([]api.Inst{j}, rets(c.over), rets(1)), Marks: []int{c.over + 1}}, 0
			if c.back {
				p, at = api.Piece{Insts: joined(rets(c.over), []api.Inst{j}, rets(1)), Marks: []int{0}}, c.over
			}
			img := linked(t, api.TargetC, []api.Piece{p}, nil, 0)
			if len(img.Code) != c.over+1+c.size {
				t.Fatalf("%+v: %d bytes", c, len(img.Code))
			}
			want := leading(j, c.imm)
			if i, n := decoded(t, img, at); n != c.size || i != want {
				t.Errorf("%+v: %+v, %d bytes", c, i, n)
			}
		}
		p := api.Piece{Insts: joined(rets(c.over), []api.Inst{jmp(0)}), Marks: []int{0}}
		if img := linked(t, api.TargetR, []api.Piece{p}, nil, 0); len(img.Code) != 8*(c.over+1) {
			t.Errorf("R64, %d between: %d bytes", c.over, len(img.Code))
		}
	}
}

// TestGrowth: P6.1: one that grows makes others grow that lead over it, from either side, and those that others do; a jump does not grow by one beside its way.
func TestGrowth(t *testing.T) {
	ahead := func(n int) []api.Inst { return joined([]api.Inst{jmp(0)}, rets(n)) }
	for _, c := range []struct {
		name  string
		insts []api.Inst
		marks []int
		bytes int
	}{
		{"ahead over one that grows", joined(ahead(124), []api.Inst{jmp(1)}, rets(130)), []int{126, 256}, 6 + 124 + 6 + 130},
		{"ahead up to one that grows", joined(ahead(127), []api.Inst{jmp(1)}, rets(130)), []int{128, 259}, 3 + 127 + 6 + 130},
		{"ahead over one that stays", joined(ahead(124), []api.Inst{jmp(1)}, rets(127)), []int{126, 253}, 3 + 124 + 3 + 127},
		{"back over one that grows", joined([]api.Inst{jmp(1)}, rets(122), []api.Inst{jmp(0)}, rets(10)), []int{0, 134}, 6 + 122 + 6 + 10},
		{"back to one behind what grows", joined([]api.Inst{jmp(1)}, rets(125), []api.Inst{jmp(0)}, rets(10)), []int{1, 137}, 6 + 125 + 3 + 10},
		{"two over one another, both at the edge", joined(ahead(122), []api.Inst{jmp(1)}, rets(2)), []int{124, 0}, 3 + 122 + 3 + 2},
		{"two over one another, both beyond it", joined(ahead(123), []api.Inst{jmp(1)}, rets(2)), []int{125, 0}, 6 + 123 + 6 + 2},
	} {
		img := linked(t, api.TargetC, []api.Piece{{Insts: c.insts, Marks: c.marks}}, nil, 0)
		if len(img.Code) != c.bytes {
			t.Errorf("%s: %d bytes, not %d", c.name, len(img.Code), c.bytes)
		}
	}
}

// chain is jumps each of which leads over the next one and is at the edge; the last one grows if it is asked to, and then all do, one by one.
func chain(links int, grows bool) api.Piece {
	p := api.Piece{}
	for n := range links {
		p.Insts = append(append(p.Insts, jmp(n)), rets(124)...)
		p.Marks = append(p.Marks, 125*(n+1)+1)
	}
	p.Insts = append(append(p.Insts, jmp(links)), rets(130)...)
	p.Marks = append(p.Marks, len(p.Insts)-4)
	if grows {
		p.Marks[links] = len(p.Insts)
	}
	return p
}

// mirrored is p from its end to its beginning.
func mirrored(p api.Piece) api.Piece {
	m := api.Piece{Insts: slices.Clone(p.Insts), Marks: slices.Clone(p.Marks)}
	slices.Reverse(m.Insts)
	for n := range m.Marks {
		m.Marks[n] = len(p.Insts) - p.Marks[n]
	}
	return m
}

// TestChain: P6.1: growth goes on as far as it leads, in either direction, in a piece as long as can be.
func TestChain(t *testing.T) {
	const links = 8000
	for _, c := range []struct {
		grows bool
		bytes int
	}{{false, 127*links + 3 + 130}, {true, 130*links + 6 + 130}} {
		if img := linked(t, api.TargetC, []api.Piece{chain(links, c.grows)}, nil, 0); len(img.Code) != c.bytes {
			t.Errorf("grows %v: %d bytes, not %d", c.grows, len(img.Code), c.bytes)
		}
	}
	// Backwards a jump leads over itself, too: what is at the edge ahead is beyond it here, at once.
	if img := linked(t, api.TargetC, []api.Piece{mirrored(chain(links, false))}, nil, 0); len(img.Code) != 130*links+6+130 {
		t.Errorf("mirrored: %d bytes", len(img.Code))
	}
}

// TestDense: P6.1: a piece of jumps alone, as many as can be, ends soon, whether all stay short or all grow.
func TestDense(t *testing.T) {
	for _, c := range []struct{ jumps, over, size int }{{api.MaxCode / 3, 42, 3}, {api.MaxCode / 6, 43, 6}, {api.MaxCode / 6, 170000, 6}} {
		p := api.Piece{}
		short := 0
		for n := range c.jumps {
			p.Insts = append(p.Insts, jmp(n))
			p.Marks = append(p.Marks, min(n+1+c.over, c.jumps))
			if c.size == 3 || n >= c.jumps-43 {
				short++
			}
		}
		img := linked(t, api.TargetC, []api.Piece{p}, nil, 0)
		// Of those near the end the last ones lead over short ones alone.
		if low, high := 3*short+c.size*(c.jumps-short), c.size*c.jumps; len(img.Code) < low || len(img.Code) > high {
			t.Errorf("%+v: %d bytes, not %d to %d", c, len(img.Code), low, high)
		}
	}
}

// TestRuns: P6.1: what is linked runs: a loop down from 3 that calls a function that tells, ahead of it and behind it, on both targets.
func TestRuns(t *testing.T) {
	tell := api.Piece{Insts: []api.Inst{{Op: api.InstEmit}, {Op: api.InstRet}}}
	down := map[int][]api.Inst{
		api.TargetR: {{Op: api.InstMovI, Imm: 3}, {Op: api.InstJz, Label: 1}, call(0), {Op: api.InstAddI, Imm: -1}, call(2), {Op: api.InstJnz, Label: 0}, {Op: api.InstExit}},
		api.TargetC: {{Op: api.InstMovI, Imm: 3}, {Op: api.InstCmpI, K: api.KindI64}, jcc(api.BinEq, 1), call(0), {Op: api.InstBinI, K: api.KindI64, Sub: api.BinSub, Imm: 1}, call(2), jmp(0), {Op: api.InstExit}},
	}
	for target, insts := range down {
		marks := []int{1, len(insts) - 1}
		img := linked(t, target, []api.Piece{tell, {Insts: insts, Marks: marks}, tell}, nil, 1)
		r, e := run.Run(img, api.MinMemory, nil, nil, 1000)
		if e != api.OK || r.End != api.EndExit || !slices.Equal(r.Trace, []uint64{3, 2, 2, 1, 1, 0}) {
			t.Errorf("target %d: %+v, %d", target, r, e)
		}
	}
}
