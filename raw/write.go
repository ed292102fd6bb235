package raw

import "gantry/api"

// Beyond these R1's bound says nothing of a program, whose nodes have 64 bytes each at least. There the writer goes no further, so that it ends even where lists stand in themselves.
const (
	boundNodes = 1 << 31 / 64
	boundNest  = 1 << 16
)

// writer lays down a program's bytes. It goes on behind what is wrong, for only the whole program tells which error is the first.
type writer struct {
	bytes   []byte
	noBytes bool
	nodes   int
	deep    int // in how many nodes it stands
	deepest int
}

func (w *writer) refusal() api.Errno {
	switch {
	case w.noBytes:
		return api.ErrRawForm
	case w.nodes > api.MaxNodes:
		return api.ErrRawMany
	case w.deepest > api.MaxNest:
		return api.ErrRawDeep
	}
	return api.OK
}

func (w *writer) program(p api.Program) {
	writeList(w, p.Types, w.entry)
	writeList(w, p.Funcs, w.function)
}

func (w *writer) entry(t api.Type) {
	w.count(t.Kind)
	w.count(t.Elem)
	w.count(t.N)
	writeList(w, t.Fields, w.count)
}

func (w *writer) function(f api.Func) {
	w.count(f.Params)
	writeList(w, f.Locals, w.count)
	writeList(w, f.Results, w.count)
	writeList(w, f.Body, w.statement)
}

func (w *writer) statement(s api.Stmt) {
	if w.begin() {
		w.count(s.Op)
		w.groups(fold(s.N))
		writeList(w, s.Args, w.term)
		writeList(w, s.Dst, w.count)
		writeList(w, s.A, w.statement)
		writeList(w, s.B, w.statement)
	}
	w.end()
}

func (w *writer) term(x api.Expr) {
	if w.begin() {
		w.count(x.Op)
		w.count(x.T)
		w.groups(fold(x.N))
		w.text(x.S)
		writeList(w, x.Args, w.term)
	}
	w.end()
}

// begin tells whether to go into a node.
func (w *writer) begin() bool {
	w.nodes++
	w.deep++
	w.deepest = max(w.deepest, w.deep)
	return w.nodes < boundNodes && w.deep < boundNest
}

func (w *writer) end() { w.deep-- }

func writeList[T any](w *writer, l []T, one func(T)) {
	w.count(len(l))
	for _, x := range l {
		one(x)
	}
}

func (w *writer) text(s string) {
	if len(s) > api.MaxText {
		w.noBytes = true
		return
	}
	w.count(len(s))
	w.put([]byte(s)...)
}

func (w *writer) count(n int) {
	if n < 0 || n > maxCount {
		w.noBytes = true
		return
	}
	w.groups(uint64(n))
}

func (w *writer) groups(x uint64) {
	for ; x >= groupMore; x >>= groupBits {
		w.put(byte(x%groupMore + groupMore))
	}
	w.put(byte(x))
}

// put keeps no bytes that nobody will be told.
func (w *writer) put(b ...byte) {
	if w.refusal() == api.OK {
		w.bytes = append(w.bytes, b...)
	}
}
