package run

import (
	"bytes"
	"maps"
	"slices"
	"testing"

	"gantry/api"
)

// leastMemory has room for the data of image.
const leastMemory = 8192 + 32

// turns is a row of numbers that looks like chance, and is the same in every run.
type turns uint64

func (s *turns) below(n int) int {
	*s = *s*6364136223846793005 + 1442695040888963407
	return int(uint64(*s) >> 33 % uint64(n))
}

// word is one at or near an edge, an address, or whatever.
func (s *turns) word() uint64 {
	switch s.below(5) {
	case 0:
		return uint64(s.below(4))
	case 1:
		return uint64(4090 + s.below(30))
	case 2:
		return uint64(leastMemory - 12 + s.below(110))
	case 3:
		return 0 - uint64(s.below(300))
	}
	return uint64(s.below(1<<31))<<33 | uint64(s.below(1<<31))<<2
}

// fieldsOf tells which fields a code has on a target: A, B, C, K; S: Sub; X: Scale; I: a number; J: how far a jump goes; M: how far memory is; R: a register's number.
func fieldsOf(target int) map[int]string {
	l := map[int]string{api.InstMovI: "AI", api.InstMov: "AB", api.InstConv: "ABKS", api.InstLoad: "ABKM", api.InstStore: "ABKM", api.InstJmp: "J", api.InstCall: "J", api.InstRet: "", api.InstChk: "I", api.InstAlloc: "AB", api.InstEmit: "A", api.InstExit: "A", api.InstPanic: "I"}
	own := map[int]string{api.InstMovH: "AI", api.InstBin: "ABCKS", api.InstUn: "ABKS", api.InstAddI: "ABI", api.InstSel: "ABCR", api.InstJnz: "AJ", api.InstJz: "AJ"}
	if target == api.TargetC {
		own = map[int]string{api.InstBin: "ABKS", api.InstBinI: "AKSI", api.InstBinM: "ABKSM", api.InstUn: "AKS", api.InstLea: "ABCXI", api.InstLoadX: "ABCXKM", api.InstStoreX: "ABCXKM", api.InstSel: "ABS", api.InstCmp: "ABK", api.InstCmpI: "AKI", api.InstSet: "AS", api.InstJcc: "SJ"}
	}
	maps.Copy(l, own)
	return l
}

// fill gives a field a number that is often a fitting one.
func (s *turns) fill(i *api.Inst, field rune) {
	switch field {
	case 'A':
		i.A = s.below(6)
	case 'B':
		i.B = s.below(6)
	case 'C':
		i.C = s.below(6)
	case 'K':
		i.K = 1 + s.below(11)
	case 'S':
		i.Sub = 1 + s.below(16>>s.below(3))
		if i.Op == api.InstSel || i.Op == api.InstSet || i.Op == api.InstJcc {
			i.Sub = api.BinEq + s.below(6)
		}
	case 'X':
		i.Scale = 1 << s.below(4)
	case 'I':
		i.Imm = int64(s.below(1<<31) >> s.below(31))
		if s.below(3) == 0 {
			i.Imm = -i.Imm
		}
	case 'J':
		i.Imm = int64(8 * s.below(3))
	case 'M':
		i.Imm = int64(s.below(70) - 4)
		if s.below(4) > 0 {
			i.B = api.RegSP
		}
	case 'R':
		i.Imm = int64(s.below(6))
	}
}

// inst is an instruction of the target; few of them end a run.
func (s *turns) inst(target int) api.Inst {
	encode := encodeOf(target)
	fields := fieldsOf(target)
	for {
		i := api.Inst{Op: s.below(30)}
		all, has := fields[i.Op]
		for _, f := range all {
			s.fill(&i, f)
		}
		if i.Op == api.InstAlloc && s.below(2) == 0 {
			i.B = 6 + s.below(8)
		}
		if i.Op == api.InstBin && target == api.TargetC && s.below(3) == 0 {
			i.A, i.B = 0, 1+2*s.below(2)
		}
		ends := i.Op == api.InstExit || i.Op == api.InstPanic || i.Op == api.InstRet || i.Op == api.InstChk
		if !has || ends && s.below(4) > 0 {
			continue
		}
		if _, e := encode(i); e == api.OK {
			return i
		}
	}
}

// image is a program of some functions that call each other, and what it is given.
func (s *turns) image(t *testing.T) (api.Image, []uint64, []api.Assign) {
	var l []api.Inst
	img := api.Image{Target: 1 + s.below(2)}
	room := map[int]api.Inst{api.TargetR: addI(15, 15, -64), api.TargetC: {Op: api.InstLea, A: 15, B: 15, Imm: -64}}[img.Target]
	l = append(l, room)
	begins := []int{0}
	for range 1 + s.below(4) {
		for range 2 + s.below(8) {
			l = append(l, s.inst(img.Target))
		}
		last := api.Inst{Op: api.InstRet}
		if len(begins) == 1 || s.below(8) == 0 {
			last = exit(s.below(6))
		}
		l = append(l, last)
		begins = append(begins, len(l))
	}
	starts := placesOf(t, img.Target, l)
	for n, i := range l {
		if i.Op == api.InstCall && s.below(8) > 0 {
			l[n].Imm = int64(starts[begins[s.below(len(begins))]] - starts[n+1])
		}
	}
	img.Code = codeOf(t, img.Target, l)
	for range s.below(30) {
		img.Data = append(img.Data, byte(s.below(256)))
	}
	var calls []api.Assign
	for range 1 + s.below(9) {
		img.Funcs = append(img.Funcs, starts[begins[s.below(len(begins))]])
		var a api.Assign
		for range s.below(5) {
			p := api.Place{N: s.below(6), Stack: s.below(2) == 0}
			a.Args, a.Results = append(a.Args, p), append(a.Results, api.Place{N: s.below(3), Stack: !p.Stack})
		}
		calls = append(calls, a)
	}
	if s.below(4) == 0 {
		img.Entry = starts[s.below(len(starts))]
	}
	var in []uint64
	for range 6 {
		in = append(in, s.word())
	}
	return img, in[:s.below(7)], calls
}

// placesOf tells where each instruction begins, and, last, where the code ends. How far a call goes does not change its length.
func placesOf(t *testing.T, target int, l []api.Inst) []int {
	told := []int{0}
	for n := range l {
		told = append(told, told[n]+len(codeOf(t, target, l[n:n+1])))
	}
	return told
}

// TestManySteps: P5.1; many programs, step by step, each register held against the model's.
func TestManySteps(t *testing.T) {
	s := turns(5)
	done := map[[2]int]int{}
	for range 20000 {
		img, in, _ := s.image(t)
		memory := leastMemory + s.below(100)
		m := begin(t, img, memory, in...)
		want := newModel(img, memory, in)
		for range 80 {
			went := m.Step()
			want.step()
			done[[2]int{img.Target, want.last.Op}]++
			end, number := m.Ended()
			if end != want.end || number != want.number || went != (end == api.EndNone) {
				t.Fatalf("%+v: %v, %d, %d, want %d, %d", want.last, went, end, number, want.end, want.number)
			}
			for n, x := range want.reg {
				if m.Reg(n) != x {
					t.Fatalf("%+v: the register %d is %x, want %x", want.last, n, m.Reg(n), x)
				}
			}
			if !went {
				break
			}
		}
	}
	for _, target := range targets {
		for op := api.InstMovI; op <= api.InstPanic; op++ {
			if _, has := fieldsOf(target)[op]; has && done[[2]int{target, op}] < 100 {
				t.Errorf("no more than %d steps of the code %d on %d", done[[2]int{target, op}], op, target)
			}
		}
	}
}

// TestManyRuns: P5.2; many programs by Run, with calls and without, held against the model's.
func TestManyRuns(t *testing.T) {
	s := turns(55)
	ends, back, away := map[int]int{}, 0, 0
	for range 20000 {
		img, in, calls := s.image(t)
		memory, fuel := leastMemory+s.below(100), s.below(300)
		if s.below(5) == 0 {
			calls = nil
		}
		got, e := Run(img, memory, in, calls, fuel)
		if want := modelRun(img, memory, in, calls, fuel); e != api.OK || !same(got, want) {
			t.Fatalf("%+v: %+v, %d, want %+v", img, got, e, want)
		}
		ends[got.End]++
		for _, c := range got.Calls {
			if c.Back {
				back++
			} else {
				away++
			}
		}
	}
	for end := api.EndExit; end <= api.EndStuck; end++ {
		if ends[end] < 100 {
			t.Errorf("no more than %d runs end by %d", ends[end], end)
		}
	}
	if back < 100 || away < 500 {
		t.Errorf("no more than %d calls come back, %d do not", back, away)
	}
}

// TestMoreFuel: P5.3; with more fuel a run goes on where it ended with less; one that has ended stays.
func TestMoreFuel(t *testing.T) {
	s := turns(555)
	for range 2000 {
		img, in, calls := s.image(t)
		whole, e := Run(img, leastMemory, in, calls, 60)
		if e != api.OK {
			t.Fatal(e)
		}
		for fuel := range 60 {
			less, e := Run(img, leastMemory, in, calls, fuel)
			ended := fuel >= whole.Steps && whole.End != api.EndFuel
			if e != api.OK || ended && !same(less, whole) || !ended && (less.End != api.EndFuel || less.N != 0 || less.Steps != fuel) {
				t.Fatalf("with %d: %+v, %d, with 60: %+v", fuel, less, e, whole)
			}
			if len(less.Trace) > len(whole.Trace) || !slices.Equal(less.Trace, whole.Trace[:len(less.Trace)]) || len(less.Calls) > len(whole.Calls) {
				t.Fatalf("with %d: %+v, with 60: %+v", fuel, less, whole)
			}
			for n, c := range less.Calls {
				if c.Func != whole.Calls[n].Func || !slices.Equal(c.Args, whole.Calls[n].Args) || c.Back && !whole.Calls[n].Back {
					t.Fatalf("with %d, the call %d: %+v, with 60: %+v", fuel, n, c, whole.Calls[n])
				}
			}
		}
	}
}

// TestMuchFuel: P5.2; fuel at its bounds, of a run that goes on without end, and of one that ends by its last step.
func TestMuchFuel(t *testing.T) {
	var loop program
	loop.add(emit(0), addI(0, 0, 1))
	loop.jump(api.InstJmp, 0, 0)
	img := imageOf(t, api.TargetR, loop...)
	got, e := Run(img, 8192, nil, nil, api.MaxFuel)
	if e != api.OK || got.End != api.EndFuel || got.N != 0 || got.Steps != api.MaxFuel || len(got.Trace) != (api.MaxFuel+2)/3 {
		t.Fatalf("%d, %d, %d steps, %d told, %d", got.End, got.N, got.Steps, len(got.Trace), e)
	}
	for n, x := range got.Trace {
		if x != uint64(n) {
			t.Fatalf("the word %d is %d", n, x)
		}
	}
	short := imageOf(t, api.TargetC, movI(0, 7), emit(0), exit(0))
	for fuel, want := range []api.Run{{End: api.EndFuel}, {End: api.EndFuel, Steps: 1}, {Trace: args(7), End: api.EndFuel, Steps: 2}, {Trace: args(7), End: api.EndExit, N: 7, Steps: 3}, {Trace: args(7), End: api.EndExit, N: 7, Steps: 3}} {
		if got, e := Run(short, 8192, nil, nil, fuel); e != api.OK || !same(got, want) {
			t.Errorf("with %d: %+v, %d", fuel, got, e)
		}
	}
}

// TestNothingShared: P5.3, R2; what is handed in is neither changed nor kept; two machines, two answers, two lists of an answer have nothing in common.
func TestNothingShared(t *testing.T) {
	store := insts(api.Inst{Op: api.InstStore, A: 0, B: 1, K: api.KindU64}, api.Inst{Op: api.InstLoad, A: 2, B: 1, K: api.KindU64}, emit(2), emit(0), exit(2))
	for _, target := range targets {
		img := imageOf(t, target, store...)
		img.Data = bytes.Repeat([]byte{9}, 32)
		code, data, in := bytes.Clone(img.Code), bytes.Clone(img.Data), args(5, 4096)
		m, other := begin(t, img, leastMemory, in...), begin(t, img, leastMemory, 6, 4104)
		clear(in)
		for m.Step() {
		}
		if !bytes.Equal(img.Code, code) || !bytes.Equal(img.Data, data) {
			t.Error("a machine has changed its image")
		}
		clear(img.Code)
		clear(img.Data)
		for other.Step() {
		}
		for n, m := range []*Machine{m, other} {
			if end, number := m.Ended(); end != api.EndExit || number != int64(5+n) {
				t.Errorf("the machine %d: %d, %d", n, end, number)
			}
		}
	}
	var p program
	p.call(3)
	p.call(3)
	p.add(exit(0), emit(1), api.Inst{Op: api.InstRet})
	img := imageOf(t, api.TargetR, p...)
	img.Funcs = []int{24}
	calls := []api.Assign{{Args: places(reg(0), reg(1)), Results: places(reg(1), reg(0))}}
	got, _ := Run(img, 8192, args(3, 4), calls, 99)
	again, _ := Run(img, 8192, args(3, 4), calls, 99)
	want := api.Run{Trace: args(4, 4), End: api.EndExit, N: 3, Steps: 7, Calls: []api.Call{{Args: args(3, 4), Back: true, Results: args(4, 3)}, {Args: args(3, 4), Back: true, Results: args(4, 3)}}}
	if !same(got, want) || img.Funcs[0] != 24 || calls[0].Args[1] != reg(1) || calls[0].Results[0] != reg(1) {
		t.Errorf("%+v, want %+v", got, want)
	}
	spoil := func(l []uint64) {
		l = l[:cap(l)]
		for n := range l {
			l[n] = 99
		}
	}
	spoil(got.Calls[0].Args)
	spoil(got.Calls[1].Results)
	if !slices.Equal(got.Calls[0].Results, args(4, 3)) || !slices.Equal(got.Calls[1].Args, args(3, 4)) || !slices.Equal(got.Trace, args(4, 4)) {
		t.Errorf("lists of one answer have words in common: %+v", got)
	}
	spoil(got.Trace)
	clear(got.Calls[:cap(got.Calls)])
	if !same(again, want) {
		t.Errorf("two answers have words in common: %+v", again)
	}
}

// TestNeverBegun: R1; a machine that New has not made is stuck, and panics nowhere.
func TestNeverBegun(t *testing.T) {
	var m Machine
	if end, number := m.Ended(); m.Step() || m.Reg(0) != 0 || m.Reg(15) != 0 || end != api.EndStuck || number != 0 {
		t.Errorf("%d, %d", end, number)
	}
}

// TestWhateverBytes: R1; code that is whatever bytes ends, or goes on, and panics nowhere.
func TestWhateverBytes(t *testing.T) {
	s := turns(5555)
	for range 20000 {
		img := api.Image{Target: 1 + s.below(2)}
		for range s.below(60) {
			img.Code = append(img.Code, byte(s.below(256)>>s.below(8)))
		}
		in := args(s.word(), s.word(), s.word())
		got, e := Run(img, 8192, in, nil, 100)
		if want := modelRun(img, 8192, in, nil, 100); e != api.OK || !same(got, want) {
			t.Fatalf("%+v: %+v, %d, want %+v", img, got, e, want)
		}
	}
}
