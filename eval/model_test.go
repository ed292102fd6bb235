package eval_test

import (
	"gantry/api"
	"gantry/word"
)

// model runs a unit that checks by the chapter's words, in another way: all that a value is stands in a map, bytes too; a way is found when it is gone; what ends a run is handed back.
type model struct {
	u     api.Unit
	bytes map[uint64]byte
	heap  uint64
	fuel  int
	run   api.Run
	ops   [api.OpAddr + 1]int // how often each operation was worked out
}

// thing is what a value is: a word; of an OpCall its results.
type thing struct {
	word    uint64
	results []uint64
}

func newModel(u api.Unit, fuel int) *model {
	m := &model{u: u, bytes: map[uint64]byte{}, fuel: fuel, heap: api.DataBase}
	for _, b := range u.Data {
		m.bytes[m.heap] = b
		m.heap++
	}
	for m.heap%8 != 0 {
		m.heap++
	}
	return m
}

// all runs the Code 0.
func (m *model) all(args []uint64) api.Run {
	if l, on := m.call(0, args, 1); on {
		m.end(api.EndExit, int64(l[0]))
	}
	return m.run
}

func (m *model) end(end int, n int64) bool {
	m.run.End, m.run.N = end, n
	return false
}

func (m *model) step() bool {
	if m.run.Steps == m.fuel {
		return m.end(api.EndFuel, 0)
	}
	m.run.Steps++
	return true
}

func (m *model) call(n int, args []uint64, away int) ([]uint64, bool) {
	number := len(m.run.Calls)
	m.run.Calls = append(m.run.Calls, api.Call{Func: n, Args: args})
	if away > 1024 {
		return nil, m.end(api.EndResource, 0)
	}
	c := m.u.Codes[n]
	now := map[int]thing{}
	from, exit, b := -1, 0, 0
	for {
		m.merge(c, now, from, exit, b)
		for _, v := range c.Blocks[b].List {
			if c.Values[v].Op == api.OpPhi {
				continue
			}
			if !m.step() {
				return nil, false
			}
			x, on := m.value(c, now, c.Values[v], args, away)
			if !on {
				return nil, false
			}
			now[v] = x
		}
		if !m.step() {
			return nil, false
		}
		x := c.Blocks[b]
		switch x.Kind {
		case api.BlockPanic:
			return nil, m.end(api.EndPanic, x.N)
		case api.BlockRet:
			var l []uint64
			for i := range c.Results {
				l = append(l, now[x.Args[i]].word)
			}
			m.run.Calls[number].Back, m.run.Calls[number].Results = true, l
			return l, true
		}
		exit = 0
		if x.Kind == api.BlockIf && now[x.Args[0]].word == 0 {
			exit = 1
		}
		from, b = b, x.Succs[exit]
	}
}

// merge: the OpPhis, from what all values were.
func (m *model) merge(c api.Code, now map[int]thing, from, exit, to int) {
	if from < 0 {
		return
	}
	old := map[int]thing{}
	for n, x := range now {
		old[n] = x
	}
	// The first one of Preds that is from; the second one, if Succs[0] goes there too, and this is Succs[1].
	skip := exit == 1 && c.Blocks[from].Succs[0] == to
	for i, p := range c.Blocks[to].Preds {
		if p != from {
			continue
		}
		if skip {
			skip = false
			continue
		}
		for _, n := range c.Blocks[to].List {
			if c.Values[n].Op == api.OpPhi {
				m.ops[api.OpPhi]++
				now[n] = old[c.Values[n].Args[i]]
			}
		}
		return
	}
}

func (m *model) value(c api.Code, now map[int]thing, v api.Value, args []uint64, away int) (thing, bool) {
	m.ops[v.Op]++
	var x []uint64
	kind := 0
	for _, a := range v.Args {
		x = append(x, now[a].word)
	}
	if len(x) > 0 {
		kind = c.Values[v.Args[0]].Kind
	}
	switch v.Op {
	case api.OpInit:
		return thing{}, true
	case api.OpConst:
		return thing{word: uint64(v.N)}, true
	case api.OpArg:
		return thing{word: args[v.N]}, true
	case api.OpUn:
		return m.worked(word.Un(int(v.N), kind, x[0]))
	case api.OpBin:
		return m.worked(word.Bin(int(v.N), kind, x[0], x[1]))
	case api.OpConv:
		return m.worked(word.Conv(kind, v.Kind, x[0]))
	case api.OpSel:
		if x[0] == 1 {
			return thing{word: x[1]}, true
		}
		return thing{word: x[2]}, true
	case api.OpLoad:
		told, on := m.load(x[0]+uint64(v.N), word.Bytes(v.Kind))
		return thing{word: word.Canon(v.Kind, told)}, on
	case api.OpStore:
		return thing{}, m.store(x[0]+uint64(v.N), word.Bytes(c.Values[v.Args[1]].Kind), x[1])
	case api.OpAlloc:
		return m.block(x[0])
	case api.OpBlock:
		return thing{word: x[0]}, true
	case api.OpEmit:
		m.run.Trace = append(m.run.Trace, x[0])
		return thing{}, true
	case api.OpCall:
		l, on := m.call(int(v.N), append([]uint64(nil), x[:len(x)-1]...), away+1)
		return thing{results: l}, on
	case api.OpResult:
		return thing{word: now[v.Args[0]].results[v.N]}, true
	case api.OpData:
		return thing{word: 4096 + uint64(v.N)}, true
	}
	told := x[0] + uint64(v.N)
	for i := range x[1:] {
		told += uint64(v.M) * x[1+i]
	}
	return thing{word: told}, true
}

func (m *model) worked(x uint64, e api.Errno) (thing, bool) {
	if e != api.OK {
		return thing{}, m.end(api.EndStuck, 0)
	}
	return thing{word: x}, true
}

func (m *model) has(a uint64, bytes int) bool {
	for range bytes {
		if a < 4096 || a >= m.heap {
			return m.end(api.EndStuck, 0)
		}
		a++
	}
	return true
}

func (m *model) load(a uint64, bytes int) (x uint64, on bool) {
	if !m.has(a, bytes) {
		return 0, false
	}
	for i := range bytes {
		x += uint64(m.bytes[a+uint64(i)]) << (8 * i)
	}
	return x, true
}

func (m *model) store(a uint64, bytes int, x uint64) bool {
	if !m.has(a, bytes) {
		return false
	}
	for i := range bytes {
		m.bytes[a+uint64(i)] = byte(x >> (8 * i))
	}
	return true
}

func (m *model) block(bytes uint64) (thing, bool) {
	n := uint64(8)
	for bytes <= 1<<20 && n < bytes {
		n += 8
	}
	if bytes > 1<<20 || m.heap+n > 1<<20 {
		return thing{}, m.end(api.EndResource, 0)
	}
	m.heap += n
	return thing{word: m.heap - n}, true
}
