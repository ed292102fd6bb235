package raw

import (
	"bytes"
	"encoding/hex"
	"math"
	"reflect"
	"strings"
	"testing"

	"gantry/api"
)

// laid tells the bytes that a text of hex digits says, whatever spaces, lines and brackets stand between them.
func laid(t *testing.T, text string) []byte {
	t.Helper()
	b, err := hex.DecodeString(strings.NewReplacer(" ", "", "\n", "", "\t", "", "(", "", ")", "").Replace(text))
	if err != nil {
		t.Fatal(err)
	}
	return b
}

// both holds a program and its bytes against each other, both ways.
func both(t *testing.T, name string, p api.Program, b []byte) {
	t.Helper()
	if got, e := Encode(p); e != api.OK || !bytes.Equal(got, b) {
		t.Errorf("%s: Encode: % x, %d, not % x", name, got, e, b)
	}
	if got, e := Decode(b); e != api.OK || !reflect.DeepEqual(got, p) {
		t.Errorf("%s: Decode: %+v, %d, not %+v", name, got, e, p)
	}
}

// noProgram holds Decode against an error, and what stands beside it against the zero value.
func noProgram(t *testing.T, name string, b []byte, want api.Errno) {
	t.Helper()
	p, e := Decode(b)
	if e != want {
		t.Errorf("%s: Decode: %d, not %d", name, e, want)
	}
	if p.Types != nil || p.Funcs != nil {
		t.Errorf("%s: beside an error: %+v", name, p)
	}
}

// noBytes holds Encode against an error, and what stands beside it against the zero value.
func noBytes(t *testing.T, name string, p api.Program, want api.Errno) {
	t.Helper()
	b, e := Encode(p)
	if e != want {
		t.Errorf("%s: Encode: %d, not %d", name, e, want)
	}
	if b != nil {
		t.Errorf("%s: beside an error: % x", name, b)
	}
}

func entries(l ...api.Type) api.Program { return api.Program{Types: l} }

func functions(l ...api.Func) api.Program { return api.Program{Funcs: l} }

func body(l ...api.Stmt) api.Program { return functions(api.Func{Body: l}) }

// asked is a program of one term, in one statement.
func asked(x api.Expr) api.Program { return body(api.Stmt{Args: []api.Expr{x}}) }

// TestExamples: P8.1: the chapter's own.
func TestExamples(t *testing.T) {
	both(t, "nothing", api.Program{}, []byte{0, 0})
	both(t, "the count 300", functions(api.Func{Params: 300}), laid(t, "00 01 ac02 00 00 00"))
	both(t, "the number -1", body(api.Stmt{N: -1}), laid(t, "00 01 00 00 00 01 00 01 00 00 00 00"))
	noProgram(t, "80 00", []byte{0x80, 0}, api.ErrRawForm)
	noProgram(t, "one more", []byte{0, 0, 0}, api.ErrRawRest)
	noProgram(t, "05", []byte{5}, api.ErrRawShort)
}

// TestRows: P8.1: each row of the table, every part of it another one.
func TestRows(t *testing.T) {
	both(t, "types", entries(api.Type{Kind: 13, Elem: 1, N: 2, Fields: []int{3, 300, 4}}, api.Type{Kind: 15}),
		laid(t, "02  0d 01 02 03 03 ac02 04  0f 00 00 00  00"))
	both(t, "functions", functions(api.Func{Params: 1, Locals: []int{2, 3}, Results: []int{4, 5, 128}}, api.Func{Params: 6}),
		laid(t, "00 02  01 02 02 03 03 04 05 8001 00  06 00 00 00"))
	both(t, "a statement", body(api.Stmt{Op: 1, N: 2, Dst: []int{3, 4}}),
		laid(t, "00 01 00 00 00 01  01 04 00 02 03 04 00 00"))
	both(t, "its A and B", body(api.Stmt{Op: 1, A: []api.Stmt{{Op: 2}}, B: []api.Stmt{{Op: 3}, {Op: 4}}}, api.Stmt{Op: 5}),
		laid(t, "00 01 00 00 00 02  01 00 00 00 01 02 00 00 00 00 00 02 03 00 00 00 00 00 04 00 00 00 00 00  05 00 00 00 00 00"))
	both(t, "terms", body(api.Stmt{Args: []api.Expr{{Op: 1, T: 2, N: -3, S: "ab", Args: []api.Expr{{Op: 4}, {T: 5}}}, {N: 6}}}),
		laid(t, "00 01 00 00 00 01  00 00 02  01 02 05 02 6162 02 04 00 00 00 00 00 05 00 00 00  00 00 0c 00 00  00 00 00"))
}

// TestWhole: P8.1: a program with all of it.
func TestWhole(t *testing.T) {
	p := api.Program{
		Types: []api.Type{{Kind: api.KindI64}, {Kind: api.KindBool}, {Kind: api.TypeString}, {Kind: api.TypeArray, N: 1 << 16}},
		Funcs: []api.Func{{
			Params: 1, Locals: []int{0, 1, 2}, Results: []int{0},
			Body: []api.Stmt{
				{Op: api.StmtSet, N: 2, Args: []api.Expr{{Op: api.ExprStr, T: 2, S: "h\u00e9\x00\xff"}}},
				{Op: api.StmtLoop, A: []api.Stmt{
					{Op: api.StmtIf, Args: []api.Expr{{Op: api.ExprBin, T: 1, N: api.BinLt, Args: []api.Expr{{Op: api.ExprLocal}, {Op: api.ExprConst, N: -65}}}},
						A: []api.Stmt{{Op: api.StmtBreak}},
						B: []api.Stmt{{Op: api.StmtCall, N: 1, Dst: []int{0, 1}}, {Op: api.StmtContinue}}},
				}},
				{Op: api.StmtReturn, Args: []api.Expr{{Op: api.ExprConst, N: 64}}},
			},
		}, {Results: []int{0, 1}, Body: []api.Stmt{{Op: api.StmtPanic, N: 255}}}},
	}
	both(t, "all of it", p, laid(t, `
		04  05 00 00 00  01 00 00 00  0f 00 00 00  0c 00 808004 00
		02
		01  03 00 01 02  01 00  03
			01 04 01 (02 02 00 05 68 c3a9 00 ff 00) 00 00 00
			04 00 00 00 01
				03 00 01 (06 01 1a 00 02 (04 00 00 00 00) (01 00 8101 00 00)) 00
					01 05 00 00 00 00 00
					02 0a 02 00 02 00 01 00 00  06 00 00 00 00 00
				00
			07 00 01 (01 00 8001 00 00) 00 00 00
		00  00  02 00 01  01
			09 fe03 00 00 00 00`))
}

// TestCounts: P8.1: counts at each length's least and greatest, wherever a count stands.
func TestCounts(t *testing.T) {
	for _, c := range []struct {
		n int
		b string
	}{
		{0, "00"}, {1, "01"}, {127, "7f"}, {128, "8001"}, {129, "8101"}, {300, "ac02"}, {1<<14 - 1, "ff7f"},
		{1 << 14, "808001"}, {1<<21 - 1, "ffff7f"}, {1 << 21, "80808001"}, {1<<28 - 1, "ffffff7f"},
		{1 << 28, "8080808001"}, {math.MaxInt32 - 1, "feffffff07"}, {math.MaxInt32, "ffffffff07"},
	} {
		n, l, b := c.n, []int{c.n}, c.b
		both(t, "Kind "+b, entries(api.Type{Kind: n}), laid(t, "01 "+b+" 00 00 00  00"))
		both(t, "Elem "+b, entries(api.Type{Elem: n}), laid(t, "01 00 "+b+" 00 00  00"))
		both(t, "N "+b, entries(api.Type{N: n}), laid(t, "01 00 00 "+b+" 00  00"))
		both(t, "Fields "+b, entries(api.Type{Fields: l}), laid(t, "01 00 00 00 01 "+b+" 00"))
		both(t, "Params "+b, functions(api.Func{Params: n}), laid(t, "00 01 "+b+" 00 00 00"))
		both(t, "Locals "+b, functions(api.Func{Locals: l}), laid(t, "00 01 00 01 "+b+" 00 00"))
		both(t, "Results "+b, functions(api.Func{Results: l}), laid(t, "00 01 00 00 01 "+b+" 00"))
		both(t, "a statement's Op "+b, body(api.Stmt{Op: n}), laid(t, "00 01 00 00 00 01 "+b+" 00 00 00 00 00"))
		both(t, "Dst "+b, body(api.Stmt{Dst: l}), laid(t, "00 01 00 00 00 01 00 00 00 01 "+b+" 00 00"))
		both(t, "a term's Op "+b, asked(api.Expr{Op: n}), laid(t, "00 01 00 00 00 01 00 00 01 "+b+" 00 00 00 00 00 00 00"))
		both(t, "T "+b, asked(api.Expr{T: n}), laid(t, "00 01 00 00 00 01 00 00 01 00 "+b+" 00 00 00 00 00 00"))
	}
}

// TestNumbers: P8.1: numbers at each length's least and greatest, of statements and terms.
func TestNumbers(t *testing.T) {
	for _, c := range []struct {
		n int64
		b string
	}{
		{0, "00"}, {-1, "01"}, {1, "02"}, {-2, "03"}, {63, "7e"}, {-64, "7f"}, {64, "8001"}, {-65, "8101"},
		{1<<13 - 1, "fe7f"}, {-1 << 13, "ff7f"}, {1 << 13, "808001"}, {math.MaxInt32, "feffffff0f"}, {1 << 31, "8080808010"}, {math.MinInt32, "ffffffff0f"},
		{1<<62 - 1, "feffffffffffffff7f"}, {-1 << 62, "ffffffffffffffff7f"}, {1 << 62, "80808080808080808001"}, {-1<<62 - 1, "81808080808080808001"},
		{math.MaxInt64 - 1, "fcffffffffffffffff01"}, {math.MaxInt64, "feffffffffffffffff01"}, {math.MinInt64 + 1, "fdffffffffffffffff01"}, {math.MinInt64, "ffffffffffffffffff01"},
	} {
		both(t, "a statement's "+c.b, body(api.Stmt{N: c.n}), laid(t, "00 01 00 00 00 01 00 "+c.b+" 00 00 00 00"))
		both(t, "a term's "+c.b, asked(api.Expr{N: c.n}), laid(t, "00 01 00 00 00 01 00 00 01 00 00 "+c.b+" 00 00 00 00 00"))
	}
}

// TestTexts: P8.1: texts are bytes, whatever they are, up to MaxText.
func TestTexts(t *testing.T) {
	all := make([]byte, 256)
	for i := range all {
		all[i] = byte(i)
	}
	for _, s := range []string{"a", "\x00", "\x80\x00", "\u00e9\u4e16\U0001f600", string(all[:127]), string(all[128:]), string(all), strings.Repeat("a", api.MaxText-1), strings.Repeat("\xff", api.MaxText)} {
		count := []byte{byte(len(s))}
		if len(s) > 127 {
			count = []byte{byte(len(s)%128 + 128), byte(len(s) / 128)}
		}
		b := append([]byte{0, 1, 0, 0, 0, 1, 0, 0, 1, 0, 0, 0}, count...)
		b = append(append(b, s...), 0, 0, 0, 0)
		both(t, "text", asked(api.Expr{S: s}), b)
	}
}

// TestEmpty: P8.1, R2: a nil list and an empty one are one.
func TestEmpty(t *testing.T) {
	x := api.Expr{Args: []api.Expr{}}
	s := api.Stmt{Args: []api.Expr{x}, Dst: []int{}, A: []api.Stmt{}, B: []api.Stmt{}}
	p := api.Program{Types: []api.Type{{Fields: []int{}}}, Funcs: []api.Func{{Locals: []int{}, Results: []int{}, Body: []api.Stmt{s}}, {Body: []api.Stmt{}}}}
	want := laid(t, "01 00 00 00 00  02  00 00 00 01 00 00 01 00 00 00 00 00 00 00 00  00 00 00 00")
	if b, e := Encode(p); e != api.OK || !bytes.Equal(b, want) {
		t.Errorf("% x, %d, not % x", b, e, want)
	}
	if b, e := Encode(api.Program{Types: []api.Type{}, Funcs: []api.Func{}}); e != api.OK || !bytes.Equal(b, []byte{0, 0}) {
		t.Errorf("% x, %d", b, e)
	}
}
