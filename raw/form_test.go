package raw

import (
	"bytes"
	"fmt"
	"math"
	"strings"
	"testing"

	"gantry/api"
)

// place is where something stands: the bytes ahead of it, those behind it.
type place struct{ name, ahead, behind string }

// head are the bytes ahead of a function's first statement's; asks those ahead of its first term's.
const (
	head = "00 01 00 00 00 01 "
	asks = head + "00 00 01 "
	tail = " 00 00 00" // behind a statement's Args
)

// countPlaces are all places of counts but lists' own.
var countPlaces = []place{
	{"Kind", "01", "00 00 00  00"}, {"Elem", "01 00", "00 00  00"}, {"N", "01 00 00", "00  00"}, {"Fields", "01 00 00 00 02 00", "00"},
	{"Params", "00 01", "00 00 00"}, {"Locals", "00 01 00 01", "00 00"}, {"Results", "00 01 00 00 01", "00"},
	{"statement's Op", head, "00 00 00 00 00"}, {"Dst", head + "00 00 00 01", "00 00"},
	{"A's Op", head + "00 00 00 00 01", "00 00 00 00 00 00"}, {"B's Op", head + "00 00 00 00 00 01", "00 00 00 00 00"},
	{"term's Op", asks, "00 00 00 00" + tail}, {"T", asks + "00", "00 00 00" + tail}, {"Arg's Op", asks + "00 00 00 00 01", "00 00 00 00" + tail},
}

// listPlaces are all places of lists' counts.
var listPlaces = []place{
	{"types", "", "00"}, {"functions", "00", ""}, {"Fields", "01 00 00 00", "00"},
	{"Locals", "00 01 00", "00 00"}, {"Results", "00 01 00 00", "00"}, {"Body", "00 01 00 00 00", ""},
	{"Args", head + "00 00", "00 00 00"}, {"Dst", head + "00 00 00", "00 00"}, {"A", head + "00 00 00 00", "00"}, {"B", head + "00 00 00 00 00", ""},
	{"text", asks + "00 00 00", "00" + tail}, {"term's Args", asks + "00 00 00 00", tail},
}

var numberPlaces = []place{
	{"statement's N", head + "00", "00 00 00 00"}, {"term's N", asks + "00 00", "00 00" + tail}, {"Arg's N", asks + "00 00 00 00 01 00 00", "00 00" + tail},
}

// TestNoCount: P8.1: at each place of a count what is none; cut short within one.
func TestNoCount(t *testing.T) {
	for _, at := range append(countPlaces[:len(countPlaces):len(countPlaces)], listPlaces...) {
		if _, e := Decode(laid(t, at.ahead+"00"+at.behind)); e != api.OK {
			t.Errorf("%s: 0: %d", at.name, e)
		}
		for _, x := range []string{"8000", "ff00", "808000", "80808000", "8080808000", "ffffffff00", "ffffffff08", "8080808008", "ffffffff0f", "ffffffff7f", "8080808080", "ffffffff87", "808080808000", "ffffffffff07", "ffffffffffffffff7f"} {
			noProgram(t, at.name+": "+x, laid(t, at.ahead+x+at.behind), api.ErrRawForm)
		}
		for _, x := range []string{"", "80", "ff", "8080", "ffffff", "80808080", "ffffffff"} {
			noProgram(t, at.name+": cut behind "+x, laid(t, at.ahead+x), api.ErrRawShort)
		}
		for _, x := range []string{"8080808080", "ffffffffff", "ffffffff88", "ffffffff08", "8000"} {
			noProgram(t, at.name+": as soon as "+x, laid(t, at.ahead+x), api.ErrRawForm)
		}
	}
}

// TestNoNumber: P8.1: at each place of a number what is none; cut short within one.
func TestNoNumber(t *testing.T) {
	eight := strings.Repeat("ff", 8)
	for _, at := range numberPlaces {
		for _, x := range []string{"00", "ffffffff7f", eight + "7f", eight + "ff01"} {
			if _, e := Decode(laid(t, at.ahead+x+at.behind)); e != api.OK {
				t.Errorf("%s: %s: %d", at.name, x, e)
			}
		}
		for _, x := range []string{"8000", "ff00", "ffffffff00", eight + "00", eight + "ff00", eight + "ff02", eight + "ff03", eight + "ff7f", eight + "ff80", eight + "ff81", eight + "ffff", eight + "ffff00", eight + "ffff01", strings.Repeat("80", 10) + "01"} {
			noProgram(t, at.name+": "+x, laid(t, at.ahead+x+at.behind), api.ErrRawForm)
			noProgram(t, at.name+": as soon as "+x, laid(t, at.ahead+x), api.ErrRawForm)
		}
		for n := range 10 {
			noProgram(t, at.name+": cut", laid(t, at.ahead+strings.Repeat("80", n)), api.ErrRawShort)
			noProgram(t, at.name+": cut", laid(t, at.ahead+strings.Repeat("ff", n)), api.ErrRawShort)
		}
	}
}

// TestListShort: P8.1: a list whose count is greater than the bytes that are left is too short there, whatever these bytes are.
func TestListShort(t *testing.T) {
	for _, at := range listPlaces {
		for _, rest := range []string{"", "00", "8000", "ffffffffff", "ffffffff08 00", strings.Repeat("00", 100)} {
			n := len(laid(t, rest))
			for _, count := range []int{n + 1, n + 2, math.MaxInt32} {
				noProgram(t, at.name+": short", append(layCounts(laid(t, at.ahead), count), laid(t, rest)...), api.ErrRawShort)
			}
		}
		if at.name != "text" {
			noProgram(t, at.name+": as many as are left", append(laid(t, at.ahead), 5, 0xff, 0xff, 0xff, 0xff, 0xff), api.ErrRawForm)
		}
	}
}

// TestTextLong: P8.1: a text longer than MaxText is none, if its bytes are there; else they end too early.
func TestTextLong(t *testing.T) {
	for n := api.MaxText - 1; n < api.MaxText+5; n++ {
		text := bytes.Repeat([]byte{'a'}, n)
		b := append(layCounts(laid(t, asks+"00 00 00"), n), text...)
		for cut := range text {
			noProgram(t, "a text's bytes", b[:len(b)-1-cut], api.ErrRawShort)
		}
		whole := append(b[:len(b):len(b)], 0, 0, 0, 0)
		p := asked(api.Expr{S: string(text)})
		if n <= api.MaxText {
			noProgram(t, "behind a text", b, api.ErrRawShort)
			both(t, "a text", p, whole)
			continue
		}
		noProgram(t, "a long text", b, api.ErrRawForm)
		noProgram(t, "a long text", whole, api.ErrRawForm)
		noBytes(t, "a long text", p, api.ErrRawForm)
	}
	noBytes(t, "a long text within", asked(api.Expr{Args: []api.Expr{{}, {S: strings.Repeat("a", 1000)}}}), api.ErrRawForm)
}

// TestCutAndMore: P8.1: bytes that end at each place, and bytes that are left.
func TestCutAndMore(t *testing.T) {
	s := turns(12)
	l := []api.Program{{}, numbered(), body(make([]api.Stmt, api.MaxNodes)...), body(tower(api.MaxNest, 3)), asked(api.Expr{S: strings.Repeat("a", api.MaxText), N: math.MinInt64})}
	for range 100 {
		l = append(l, s.program())
	}
	for _, p := range l {
		b, e := Encode(p)
		if e != api.OK {
			t.Fatalf("%+v: %d", p, e)
		}
		step := 1 + len(b)/2000
		for n := 0; n < len(b); n += step {
			noProgram(t, "cut", b[:n], api.ErrRawShort)
		}
		noProgram(t, "cut by one", b[:len(b)-1], api.ErrRawShort)
		for _, more := range [][]byte{{0}, {0x80}, {0xff}, {0, 0}, b, bytes.Repeat([]byte{0xff}, 20)} {
			noProgram(t, "more", append(b[:len(b):len(b)], more...), api.ErrRawRest)
		}
	}
	noProgram(t, "nothing at all", nil, api.ErrRawShort)
	noProgram(t, "nothing at all", []byte{}, api.ErrRawShort)
}

// counted are programs each of which has one count at another place.
func counted(n int) map[string]api.Program {
	l := []int{0, n}
	return map[string]api.Program{
		"Kind": entries(api.Type{Kind: n}), "Elem": entries(api.Type{Elem: n}), "N": entries(api.Type{}, api.Type{N: n}), "Fields": entries(api.Type{Fields: l}),
		"Params": functions(api.Func{Params: n}), "Locals": functions(api.Func{Locals: l}), "Results": functions(api.Func{}, api.Func{Results: l}),
		"Op": body(api.Stmt{Op: n}), "Dst": body(api.Stmt{Dst: l}), "A": body(api.Stmt{A: []api.Stmt{{}, {Op: n}}}), "B": body(api.Stmt{B: []api.Stmt{{}, {Dst: l}}}),
		"term's Op": asked(api.Expr{Op: n}), "T": asked(api.Expr{T: n}), "Args": asked(api.Expr{Args: []api.Expr{{}, {T: n}}}),
		"in B": body(api.Stmt{B: []api.Stmt{{Args: []api.Expr{{Op: n}}}}}),
	}
}

// TestNoBytes: P8.1: at each place a count that is none.
func TestNoBytes(t *testing.T) {
	for _, n := range []int{-1, -2, math.MinInt32, math.MinInt64, math.MaxInt32 + 1, 1 << 32, 1<<32 + 1, 1 << 40, math.MaxInt64} {
		for name, p := range counted(n) {
			noBytes(t, fmt.Sprint(name, " ", n), p, api.ErrRawForm)
		}
	}
	for _, n := range []int{0, math.MaxInt32} {
		for name, p := range counted(n) {
			if _, e := Encode(p); e != api.OK {
				t.Errorf("%s %d: %d", name, n, e)
			}
		}
	}
}

// tower is a statement so many nodes deep: by A, by B, by terms, by all of them.
func tower(nodes, way int) api.Stmt {
	s := api.Stmt{}
	terms := 0
	switch way {
	case 2:
		terms = nodes - 1
	case 3:
		terms = nodes / 2
	}
	x := api.Expr{}
	for n := range terms {
		if n > 0 {
			x = api.Expr{Args: []api.Expr{x}}
		}
	}
	if terms > 0 {
		s.Args = []api.Expr{x}
	}
	for n := terms + 1; n < nodes; n++ {
		if way == 1 || way == 3 && n%2 == 0 {
			s = api.Stmt{B: []api.Stmt{s}}
		} else {
			s = api.Stmt{A: []api.Stmt{s}}
		}
	}
	return s
}

// as holds a program of few counts, in both forms, against an answer.
func as(t *testing.T, name string, p api.Program, want api.Errno) {
	t.Helper()
	if want == api.OK {
		both(t, name, p, lay(p))
		return
	}
	noBytes(t, name, p, want)
	noProgram(t, name, lay(p), want)
}

// TestDeep: P8.1: MaxNest deep, and deeper, whichever way, wherever it stands.
func TestDeep(t *testing.T) {
	for way := range 4 {
		for _, c := range []struct {
			nodes int
			e     api.Errno
		}{{1, api.OK}, {2, api.OK}, {api.MaxNest - 1, api.OK}, {api.MaxNest, api.OK}, {api.MaxNest + 1, api.ErrRawDeep}, {api.MaxNest + 2, api.ErrRawDeep}, {1000, api.ErrRawDeep}, {api.MaxNodes, api.ErrRawDeep}} {
			s := tower(c.nodes, way)
			name := fmt.Sprint(c.nodes, " deep, way ", way)
			as(t, name, body(s), c.e)
			if c.nodes > 1000 {
				continue
			}
			as(t, name+", others around", body(api.Stmt{}, s, tower(api.MaxNest, 1)), c.e)
			as(t, name+", in the second function", functions(api.Func{}, api.Func{Body: []api.Stmt{s}}), c.e)
			if c.nodes > 1 {
				as(t, name+", behind others", body(api.Stmt{Args: make([]api.Expr, 2), A: make([]api.Stmt, 2), B: []api.Stmt{{}, tower(c.nodes-1, way)}}), c.e)
			}
		}
	}
}

// TestMany: P8.1: MaxNodes nodes, and one more, whatever they are.
func TestMany(t *testing.T) {
	const most = api.MaxNodes
	for _, c := range []struct {
		extra int
		e     api.Errno
	}{{-1, api.OK}, {0, api.OK}, {1, api.ErrRawMany}, {2, api.ErrRawMany}, {1000, api.ErrRawMany}} {
		n := most + c.extra
		as(t, "statements", body(make([]api.Stmt, n)...), c.e)
		as(t, "terms", body(api.Stmt{Args: make([]api.Expr, n-1)}), c.e)
		as(t, "Args", asked(api.Expr{Args: make([]api.Expr, n-2)}), c.e)
		as(t, "A", body(api.Stmt{A: make([]api.Stmt, n-1)}), c.e)
		as(t, "B", body(api.Stmt{B: make([]api.Stmt, n-1)}), c.e)
		as(t, "of each", body(api.Stmt{Args: make([]api.Expr, 500), A: make([]api.Stmt, 500), B: make([]api.Stmt, 500)}, api.Stmt{Args: make([]api.Expr, n-1502)}), c.e)
		as(t, "of two functions", functions(api.Func{Body: make([]api.Stmt, 1024)}, api.Func{Body: make([]api.Stmt, n-1024)}), c.e)
		as(t, "of many functions", functions(alone(n)...), c.e)
	}
	// what is no node is not counted
	as(t, "types", entries(make([]api.Type, 3*most)...), api.OK)
	as(t, "functions", functions(make([]api.Func, 3*most)...), api.OK)
	as(t, "counts", api.Program{Types: []api.Type{{Fields: make([]int, 3*most)}}, Funcs: []api.Func{{Locals: make([]int, 3*most), Results: make([]int, 3*most), Body: []api.Stmt{{Dst: make([]int, 3*most)}}}}}, api.OK)
}

// alone are so many functions of one statement each.
func alone(n int) (l []api.Func) {
	for range n {
		l = append(l, api.Func{Body: make([]api.Stmt, 1)})
	}
	return l
}

// TestFirstOfEncode: P8.1, R4: what has no bytes goes ahead of too many nodes, these ahead of those too deep, wherever they stand.
func TestFirstOfEncode(t *testing.T) {
	many, deep := make([]api.Stmt, api.MaxNodes+1), tower(api.MaxNest+1, 3)
	for name, wrong := range map[string]api.Stmt{"Op": {Op: -1}, "Dst": {Dst: []int{1 << 31}}, "text": {Args: []api.Expr{{S: strings.Repeat("a", api.MaxText+1)}}}, "T": {Args: []api.Expr{{T: -1}}}, "deep within": {A: []api.Stmt{{B: []api.Stmt{{Op: 1 << 31}}}}}} {
		noBytes(t, name+" behind many", body(append(many[:len(many):len(many)], wrong)...), api.ErrRawForm)
		noBytes(t, name+" ahead of many", body(append([]api.Stmt{wrong}, many...)...), api.ErrRawForm)
		noBytes(t, name+" behind deep", body(deep, wrong), api.ErrRawForm)
		noBytes(t, name+" ahead of deep", body(wrong, deep), api.ErrRawForm)
		noBytes(t, name+" behind both", body(append(append(many[:len(many):len(many)], deep), wrong)...), api.ErrRawForm)
		s := wrong
		for range api.MaxNest {
			s = api.Stmt{B: []api.Stmt{s}}
		}
		noBytes(t, name+" in the deepest", body(s), api.ErrRawForm)
	}
	noBytes(t, "deep ahead of many", body(append([]api.Stmt{deep}, many...)...), api.ErrRawMany)
	noBytes(t, "deep behind many", body(append(many[:len(many):len(many)], deep)...), api.ErrRawMany)
	noBytes(t, "deep and many", body(tower(api.MaxNodes+1, 0)), api.ErrRawMany)
	noBytes(t, "a head behind many", functions(api.Func{Body: many}, api.Func{Params: -1}), api.ErrRawForm)
	noBytes(t, "a type and many", api.Program{Types: []api.Type{{N: -1}}, Funcs: []api.Func{{Body: many}}}, api.ErrRawForm)
}

// TestFirstOfDecode: P8.1: the first error in the order of the bytes.
func TestFirstOfDecode(t *testing.T) {
	const most = api.MaxNodes
	six := make([]byte, 6) // a statement of nothing
	list := func(count, there int, behind string) []byte {
		b := layCounts(laid(t, "00 01 00 00 00"), count)
		return append(append(b, bytes.Repeat(six, there)...), laid(t, behind)...)
	}
	noProgram(t, "many, then no count", list(most+1, most, "8000 00 00 00 00 00"), api.ErrRawMany)
	noProgram(t, "many, then bytes end", list(most+1, most, "80"), api.ErrRawMany)
	noProgram(t, "many, where bytes end", list(most+1, most, ""), api.ErrRawMany)
	noProgram(t, "many, and bytes are left", append(list(most+1, most+1, ""), 0), api.ErrRawMany)
	noProgram(t, "no count, then many", list(most+1, most-1, "8000 00 00 00 00 00"+"00 00 00 00 00 00"), api.ErrRawForm)
	noProgram(t, "bytes end, then many", list(most+1, most-1, "00 00 00 00 00"), api.ErrRawShort)
	noProgram(t, "a list that is short, then many", list(most, most-1, "00 00 03 00 00"), api.ErrRawShort)
	noProgram(t, "a list of many", list(most, most-1, "00 00 02 00 00"), api.ErrRawMany)
	noProgram(t, "a list's count that is none, then many", list(most, most-1, "00 00 8100 00 00"), api.ErrRawForm)

	nest := func(nodes int, behind string) []byte {
		return append(bytes.Repeat([]byte{0, 0, 0, 0, 1}, nodes), laid(t, behind)...) // each is ahead of its A's only one
	}
	first := laid(t, "00 01 00 00 00 01")
	deep := func(nodes int, behind string) []byte {
		return append(first[:len(first):len(first)], nest(nodes, behind)...)
	}
	noProgram(t, "deep, then no count", deep(api.MaxNest, "8000"), api.ErrRawDeep)
	noProgram(t, "deep, then bytes end", deep(api.MaxNest, "80"), api.ErrRawDeep)
	noProgram(t, "bytes end, then deep", deep(api.MaxNest, ""), api.ErrRawShort)
	noProgram(t, "no count, then deep", deep(api.MaxNest-1, "00 00 00 00 8100"), api.ErrRawForm)
	noProgram(t, "a list that is short, then deep", deep(api.MaxNest-1, "00 00 00 00 02 00"), api.ErrRawShort)

	noProgram(t, "many and deep at once", list(most, most-api.MaxNest, string(fmt.Appendf(nil, "%x00", nest(api.MaxNest, "")))), api.ErrRawMany)
	noProgram(t, "deep, then many", list(most+1, most-api.MaxNest-1, string(fmt.Appendf(nil, "%x%0400x", nest(api.MaxNest, ""), 0))), api.ErrRawDeep)
	noProgram(t, "many, then deep", list(most, most-api.MaxNest+1, string(fmt.Appendf(nil, "%x00", nest(api.MaxNest, "")))), api.ErrRawMany)
}

// TestBound: P8.1, R1: as deep, and nearly as many, as may be handed in; lists that stand in themselves end, too.
func TestBound(t *testing.T) {
	for way := range 4 {
		noBytes(t, "as deep as can be", body(tower(1<<16-1, way)), api.ErrRawMany)
	}
	for _, wrong := range []api.Expr{{Op: -1}, {T: 1 << 31}, {S: strings.Repeat("a", api.MaxText+1)}} {
		x := wrong
		for range 1<<16 - 3 {
			x = api.Expr{Args: []api.Expr{x}}
		}
		noBytes(t, "wrong, as deep as can be", asked(x), api.ErrRawForm)
	}
	twice := api.Stmt{}
	for range 20 {
		twice = api.Stmt{A: []api.Stmt{twice}, B: []api.Stmt{twice}}
	}
	noBytes(t, "2^21 nodes", body(twice), api.ErrRawMany)
	noBytes(t, "2^21 nodes, then a wrong one", body(twice, api.Stmt{Op: -1}), api.ErrRawForm)
	for n := 1; n <= 3; n++ {
		own := make([]api.Expr, n)
		for i := range own {
			own[i].Args = own
		}
		if _, e := Encode(asked(own[0])); e == api.OK {
			t.Errorf("a list of %d in itself: OK", n)
		}
	}
	zeros := append(layCounts(laid(t, "00 01 00 00 00"), 1<<24), make([]byte, 1<<24)...)
	noProgram(t, "a great count, and its bytes", zeros, api.ErrRawMany)
}
