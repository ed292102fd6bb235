package link

import (
	"testing"

	"gantry/api"
)

func refused(t *testing.T, name string, want api.Errno, target int, pieces []api.Piece, data []byte, entry int) {
	t.Helper()
	img, e := Link(target, pieces, data, entry)
	if e != want {
		t.Errorf("%s: %d, not %d", name, e, want)
	}
	if img.Target != 0 || img.Code != nil || img.Data != nil || img.Entry != 0 || img.Funcs != nil {
		t.Errorf("%s: beside an error: %+v", name, img)
	}
}

// TestForm: P6.1: whatever of the call is wrong by itself.
func TestForm(t *testing.T) {
	one := []api.Piece{{Insts: rets(1)}}
	for _, target := range []int{-1, 0, 3, 1 << 40} {
		refused(t, "target", api.ErrLinkForm, target, one, nil, 0)
	}
	for _, target := range []int{api.TargetR, api.TargetC} {
		refused(t, "no pieces", api.ErrLinkForm, target, nil, nil, 0)
		refused(t, "empty list", api.ErrLinkForm, target, []api.Piece{}, nil, 0)
		refused(t, "too many pieces", api.ErrLinkForm, target, make([]api.Piece, api.MaxFuncs+2), nil, 0)
		for _, entry := range []int{-1, 1, 1 << 40} {
			refused(t, "entry", api.ErrLinkForm, target, one, nil, entry)
		}
		img := linked(t, target, make([]api.Piece, api.MaxFuncs+1), nil, api.MaxFuncs)
		if len(img.Funcs) != api.MaxFuncs+1 || len(img.Code) != 0 || img.Entry != 0 {
			t.Errorf("as many as can be: %+v", img)
		}
	}
}

// TestNoPiece: P6.1: an instruction, a label or a mark that may not be, alone and behind pieces that are fine; each beside what may be.
func TestNoPiece(t *testing.T) {
	const r, c = api.TargetR, api.TargetC
	type wrong struct {
		target int
		i      api.Inst
	}
	var l []wrong
	for _, target := range []int{r, c} {
		for _, i := range []api.Inst{jmp(-1), jmp(2), jmp(1 << 40), {Op: api.InstJmp, Imm: 1}, {Op: api.InstJmp, Imm: -8}, {Op: api.InstJmp, A: 1}, {Op: api.InstJmp, K: 1}, call(-1), call(3), {Op: api.InstCall, Imm: 8}, {Op: api.InstCall, A: 1}, {Op: api.InstRet, Label: 1}, {Op: api.InstRet, Label: -1}, {Op: api.InstEmit, A: 16}, {Op: api.InstMovI, Label: 1}, {}, {Op: -1}, {Op: 99}, {Op: api.InstPanic}} {
			l = append(l, wrong{target, i})
		}
	}
	l = append(l, wrong{r, jcc(api.BinEq, 0)}, wrong{r, api.Inst{Op: api.InstJnz, Label: 2}}, wrong{r, api.Inst{Op: api.InstJz, Label: -1}}, wrong{r, api.Inst{Op: api.InstJz, Imm: 8}}, wrong{r, api.Inst{Op: api.InstJnz, Imm: 8}}, wrong{r, api.Inst{Op: api.InstJz, A: 16}}, wrong{r, api.Inst{Op: api.InstLea}}, wrong{r, api.Inst{Op: api.InstMovI, Imm: 1 << 31}})
	l = append(l, wrong{c, jcc(api.BinEq, 2)}, wrong{c, jcc(api.BinEq, -1)}, wrong{c, jcc(api.BinAdd, 0)}, wrong{c, api.Inst{Op: api.InstJcc, Sub: api.BinEq, Imm: 3}}, wrong{c, api.Inst{Op: api.InstJnz}}, wrong{c, api.Inst{Op: api.InstJz}}, wrong{c, api.Inst{Op: api.InstAddI}}, wrong{c, api.Inst{Op: api.InstMovH}})
	for n, w := range l {
		p := api.Piece{Insts: []api.Inst{{Op: api.InstRet}, w.i, {Op: api.InstRet}}, Marks: []int{0, 3}}
		for k := range 3 {
			pieces := []api.Piece{{Insts: rets(1)}, {Insts: rets(2)}, {}}
			linked(t, w.target, pieces, nil, 0)
			pieces[k] = p
			if _, e := Link(w.target, pieces, nil, 0); e != api.ErrLinkForm {
				t.Errorf("%d, %+v in piece %d: %d", n, w, k, e)
			}
		}
	}
	for _, target := range []int{r, c} {
		for _, marks := range [][]int{{-1}, {3}, {0, 3, 1}, {1 << 40}, {2, -1 << 62}} {
			refused(t, "mark", api.ErrLinkForm, target, []api.Piece{{}, {Insts: rets(2), Marks: marks}}, nil, 0)
		}
		refused(t, "mark of an empty piece", api.ErrLinkForm, target, []api.Piece{{Marks: []int{1}}}, nil, 0)
		refused(t, "jump without marks", api.ErrLinkForm, target, []api.Piece{{Insts: []api.Inst{jmp(0)}}}, nil, 0)
		linked(t, target, []api.Piece{{Marks: []int{0, 0}}, {Insts: rets(2), Marks: []int{2, 0, 1, 2}}}, nil, 0)
	}
}

// TestLarge: P6.1: bytes up to MaxCode and beyond, of data and of code, in one piece and in several, by short jumps and by long ones alone.
func TestLarge(t *testing.T) {
	const most = api.MaxCode
	one := []api.Piece{{Insts: rets(1)}}
	full := []api.Piece{{Insts: joined([]api.Inst{jmp(0)}, rets(most-6)), Marks: []int{most - 5}}}
	grown := []api.Piece{{Insts: joined([]api.Inst{jmp(0)}, rets(most-5)), Marks: []int{most - 4}}}
	for _, target := range []int{api.TargetR, api.TargetC} {
		if img := linked(t, target, one, make([]byte, most), 0); len(img.Data) != most {
			t.Errorf("%d bytes of data", len(img.Data))
		}
		refused(t, "data", api.ErrLinkLarge, target, one, make([]byte, most+1), 0)
	}
	for _, c := range []struct {
		target int
		fits   []api.Piece
		not    []api.Piece
	}{
		{api.TargetR, []api.Piece{{Insts: rets(most / 8)}}, []api.Piece{{Insts: rets(most/8 + 1)}}},
		{api.TargetR, []api.Piece{{Insts: rets(most/8 - 5)}, {Insts: rets(5)}}, []api.Piece{{Insts: rets(most/8 - 5)}, {Insts: rets(6)}}},
		{api.TargetC, []api.Piece{{Insts: rets(most)}}, []api.Piece{{Insts: rets(most + 1)}}},
		{api.TargetC, []api.Piece{{Insts: rets(5)}, {Insts: rets(most - 5)}}, []api.Piece{{Insts: rets(5)}, {}, {Insts: rets(most - 4)}}},
		{api.TargetC, full, grown},
	} {
		if img := linked(t, c.target, c.fits, nil, 0); len(img.Code) != most {
			t.Errorf("%d bytes of code", len(img.Code))
		}
		refused(t, "code", api.ErrLinkLarge, c.target, c.not, nil, 0)
	}
	linked(t, api.TargetC, full, make([]byte, most), 0)
}

// TestFirstError: P6.1, R4: ErrLinkForm ahead of ErrLinkLarge, wherever what is wrong stands.
func TestFirstError(t *testing.T) {
	data := make([]byte, api.MaxCode+1)
	large := api.Piece{Insts: rets(api.MaxCode + 1)}
	bad := api.Piece{Insts: []api.Inst{jmp(0)}}
	for _, target := range []int{api.TargetR, api.TargetC} {
		refused(t, "piece and data", api.ErrLinkForm, target, []api.Piece{bad}, data, 0)
		refused(t, "entry and data", api.ErrLinkForm, target, []api.Piece{{}}, data, 1)
		refused(t, "none and data", api.ErrLinkForm, target, nil, data, 0)
		refused(t, "piece behind a large one", api.ErrLinkForm, target, []api.Piece{large, bad}, nil, 0)
		refused(t, "mark of a large one", api.ErrLinkForm, target, []api.Piece{{Insts: large.Insts, Marks: []int{-1}}}, nil, 0)
		refused(t, "entry and a large one", api.ErrLinkForm, target, []api.Piece{large}, nil, -1)
		refused(t, "too many, large", api.ErrLinkForm, target, append([]api.Piece{large}, make([]api.Piece, api.MaxFuncs+1)...), nil, 0)
		refused(t, "both large", api.ErrLinkLarge, target, []api.Piece{large}, data, 0)
	}
	refused(t, "target and data", api.ErrLinkForm, api.TargetNone, []api.Piece{large}, data, 0)
}
