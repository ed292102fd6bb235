package raw

import "gantry/api"

// fault is what the reader panics with where something is wrong: a type of its own, so that no other panic is taken for one.
type fault struct{ e api.Errno }

// reader goes through bytes from the first to the last: what is wrong first is told first.
type reader struct {
	left  []byte
	nodes int
	deep  int // in how many nodes it stands
}

// read: a panic that is not the reader's own says nothing of the bytes, and is not kept back.
func read(b []byte) (p api.Program, e api.Errno) {
	defer func() {
		x := recover()
		if x == nil {
			return
		}
		f, own := x.(fault)
		if !own {
			panic(x)
		}
		p, e = api.Program{}, f.e
	}()
	r := &reader{left: b}
	p = r.program()
	if len(r.left) > 0 {
		panic(fault{api.ErrRawRest})
	}
	return p, api.OK
}

func (r *reader) program() (p api.Program) {
	p.Types = readList(r, r.entry)
	p.Funcs = readList(r, r.function)
	return p
}

func (r *reader) entry() (t api.Type) {
	t.Kind = r.count()
	t.Elem = r.count()
	t.N = r.count()
	t.Fields = readList(r, r.count)
	return t
}

func (r *reader) function() (f api.Func) {
	f.Params = r.count()
	f.Locals = readList(r, r.count)
	f.Results = readList(r, r.count)
	f.Body = readList(r, r.statement)
	return f
}

func (r *reader) statement() (s api.Stmt) {
	r.begin()
	s.Op = r.count()
	s.N = r.number()
	s.Args = readList(r, r.term)
	s.Dst = readList(r, r.count)
	s.A = readList(r, r.statement)
	s.B = readList(r, r.statement)
	r.end()
	return s
}

func (r *reader) term() (x api.Expr) {
	r.begin()
	x.Op = r.count()
	x.T = r.count()
	x.N = r.number()
	x.S = r.text()
	x.Args = readList(r, r.term)
	r.end()
	return x
}

// begin stands ahead of all of a node's bytes, the first one too.
func (r *reader) begin() {
	if r.nodes == api.MaxNodes {
		panic(fault{api.ErrRawMany})
	}
	if r.deep == api.MaxNest {
		panic(fault{api.ErrRawDeep})
	}
	r.nodes++
	r.deep++
}

func (r *reader) end() { r.deep-- }

// readList makes no room ahead: a count alone does not say that so many follow.
func readList[T any](r *reader, one func() T) (l []T) {
	for range r.length() {
		l = append(l, one())
	}
	return l
}

// length is a list's count: of what is in a list each has a byte at least.
func (r *reader) length() int {
	n := r.count()
	if n > len(r.left) {
		panic(fault{api.ErrRawShort})
	}
	return n
}

func (r *reader) text() string {
	n := r.length()
	if n > api.MaxText {
		panic(fault{api.ErrRawForm})
	}
	s := string(r.left[:n])
	r.left = r.left[n:]
	return s
}

func (r *reader) count() int { return int(r.groups(countBytes, countLast)) }

func (r *reader) number() int64 { return unfold(r.groups(numberBytes, numberLast)) }

// groups reads at most so many bytes, the last of these at most that: below groupMore, so it ends there. A last group of 0 would make it longer than it must be.
func (r *reader) groups(most int, last byte) (x uint64) {
	for n := 0; ; n++ {
		g := r.next()
		if n == most-1 && g > last || n > 0 && g == 0 {
			panic(fault{api.ErrRawForm})
		}
		x |= uint64(g%groupMore) << (groupBits * n)
		if g < groupMore {
			return x
		}
	}
}

func (r *reader) next() byte {
	if len(r.left) == 0 {
		panic(fault{api.ErrRawShort})
	}
	x := r.left[0]
	r.left = r.left[1:]
	return x
}
