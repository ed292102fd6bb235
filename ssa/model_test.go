package ssa

import (
	"slices"

	"gantry/api"
	"gantry/word"
)

// model asks of a Code what the chapter's words say, one after the other, by plain searches.
type model struct {
	u api.Unit
	c api.Code
}

func modelCheck(u api.Unit) api.Errno {
	if len(u.Codes) < 1 || len(u.Codes) > 32 || len(u.Data) > 1<<20 {
		return api.ErrSSAForm
	}
	for _, c := range u.Codes {
		m := model{u, c}
		switch {
		case !m.form():
			return api.ErrSSAForm
		case !m.flow():
			return api.ErrSSAFlow
		case !m.types():
			return api.ErrSSAType
		case !m.order():
			return api.ErrSSAOrder
		case !m.memory():
			return api.ErrSSAMem
		}
	}
	return api.OK
}

func modelFlow(c api.Code) api.Errno {
	m := model{c: c}
	switch {
	case !m.blocksForm():
		return api.ErrSSAForm
	case !m.flow():
		return api.ErrSSAFlow
	}
	return api.OK
}

func every[T any](l []T, holds func(i int, x T) bool) bool {
	for i, x := range l {
		if !holds(i, x) {
			return false
		}
	}
	return true
}

func (m model) isBlock(n int) bool {
	return n >= 0 && n < len(m.c.Blocks) && m.c.Blocks[n].Kind != 0
}

func (m model) isValue(n int) bool {
	return n >= 0 && n < len(m.c.Values) && m.c.Values[n].Op != 0
}

func (m model) blocksForm() bool {
	if len(m.c.Blocks) < 1 || len(m.c.Blocks) > 1<<12 {
		return false
	}
	return every(m.c.Blocks, func(_ int, b api.Block) bool {
		if b.Kind == 0 {
			return len(b.Preds) == 0 && len(b.Succs) == 0
		}
		number := func(_, n int) bool { return m.isBlock(n) }
		return b.Kind >= 1 && b.Kind <= 4 && every(b.Preds, number) && every(b.Succs, number)
	})
}

// home tells in which List a value stands, and where; false, unless it is one time.
func (m model) home(n int) (block, place int, once bool) {
	count := 0
	for b, x := range m.c.Blocks {
		for i, v := range x.List {
			if v == n {
				block, place, count = b, i, count+1
			}
		}
	}
	return block, place, count == 1
}

func (m model) form() bool {
	isKind := func(_, k int) bool { return k >= 1 && k <= 11 }
	number := func(_, n int) bool { return m.isValue(n) }
	if !every(m.c.Params, isKind) || !every(m.c.Results, isKind) || len(m.c.Params) > 128 || len(m.c.Results) > 128 || len(m.c.Values) > 1<<14 || !m.blocksForm() {
		return false
	}
	return every(m.c.Blocks, func(n int, b api.Block) bool {
		if b.Kind == 0 {
			return b.N == 0 && len(b.Args) == 0 && len(b.List) == 0
		}
		isPanic := b.Kind == api.BlockPanic && b.N >= 1 && b.N <= 1<<31-1
		args := map[int]int{api.BlockIf: 1, api.BlockRet: len(m.c.Results) + 1, api.BlockPanic: 1}[b.Kind]
		return every(b.Args, number) && every(b.List, number) && (isPanic || b.Kind != api.BlockPanic && b.N == 0) && len(b.Args) == args && m.phisAhead(n, b)
	}) && every(m.c.Values, m.valueForm)
}

func (m model) phisAhead(n int, b api.Block) bool {
	return every(b.List, func(i, v int) bool {
		return m.c.Values[v].Op != api.OpPhi || n != 0 && every(b.List[:i], func(_, ahead int) bool { return m.c.Values[ahead].Op == api.OpPhi })
	})
}

// args is the table's second column; of what it does not say outright -1.
var args = map[int]int{
	api.OpConst: 0, api.OpArg: 0, api.OpUn: 1, api.OpBin: 2, api.OpConv: 1, api.OpPhi: -1, api.OpSel: 3, api.OpLoad: 2, api.OpInit: 0, api.OpStore: 3,
	api.OpAlloc: 2, api.OpBlock: 1, api.OpEmit: 2, api.OpCall: -1, api.OpResult: 1, api.OpData: 0, api.OpAddr: -1,
}

func (m model) valueForm(n int, v api.Value) bool {
	if v.Op == 0 {
		return v.Kind == 0 && v.N == 0 && v.M == 0 && len(v.Args) == 0
	}
	count, is := args[v.Op]
	b, _, once := m.home(n)
	if !is || !once || !every(v.Args, func(_, a int) bool { return m.isValue(a) }) {
		return false
	}
	switch v.Op {
	case api.OpPhi:
		count = len(m.c.Blocks[b].Preds)
	case api.OpCall:
		if v.N < 0 || v.N >= int64(len(m.u.Codes)) {
			return false
		}
		count = len(m.u.Codes[v.N].Params) + 1
	case api.OpAddr:
		count = min(2, max(1, len(v.Args)))
	}
	named := slices.Contains([]int{api.OpConst, api.OpArg, api.OpUn, api.OpBin, api.OpLoad, api.OpStore, api.OpCall, api.OpResult, api.OpData, api.OpAddr}, v.Op)
	return len(v.Args) == count && (named || v.N == 0) && (v.Op == api.OpAddr || v.M == 0)
}

// reach tells which blocks are come to from block 0 without the block without.
func (m model) reach(without int) []bool {
	seen := make([]bool, len(m.c.Blocks))
	next := []int{0}
	for len(next) > 0 {
		b := next[0]
		next = next[1:]
		if b != without && !seen[b] {
			seen[b] = true
			next = append(next, m.c.Blocks[b].Succs...)
		}
	}
	return seen
}

func count(l []int, x int) (n int) {
	for _, y := range l {
		if x == y {
			n++
		}
	}
	return n
}

func (m model) flow() bool {
	if m.c.Blocks[0].Kind == 0 || len(m.c.Blocks[0].Preds) > 0 {
		return false
	}
	seen := m.reach(-1)
	return every(m.c.Blocks, func(n int, b api.Block) bool {
		exits := map[int]int{api.BlockPlain: 1, api.BlockIf: 2}[b.Kind]
		return len(b.Succs) == exits && (b.Kind == 0 || seen[n]) && every(m.c.Blocks, func(p int, from api.Block) bool {
			return count(from.Succs, n) == count(b.Preds, p)
		})
	})
}

func (m model) types() bool {
	inits := 0
	for _, v := range m.c.Values {
		if v.Op == api.OpInit {
			inits++
		}
	}
	return inits == 1 && every(m.c.Values, m.valueType) && every(m.c.Blocks, func(_ int, b api.Block) bool {
		switch kinds := m.kindsOf(b.Args); b.Kind {
		case api.BlockIf:
			return kinds[0] == api.KindBool
		case api.BlockRet:
			return slices.Equal(kinds, append(slices.Clone(m.c.Results), api.KindMem))
		case api.BlockPanic:
			return kinds[0] == api.KindMem
		}
		return true
	})
}

func (m model) kindsOf(l []int) (kinds []int) {
	for _, n := range l {
		kinds = append(kinds, m.c.Values[n].Kind)
	}
	return kinds
}

func (m model) valueType(n int, v api.Value) bool {
	const mem, ptr, u64 = api.KindMem, api.KindPtr, api.KindU64
	a, k := m.kindsOf(v.Args), v.Kind
	isWord := func(k int) bool { return k >= api.KindBool && k <= api.KindPtr }
	block, _, _ := m.home(n)
	within := func(l []int) bool { return v.N >= 0 && v.N < int64(len(l)) && l[v.N] == k }
	size := v.N >= 0 && v.N <= 1<<16
	switch v.Op {
	case api.OpConst:
		return isWord(k) && word.Canon(k, uint64(v.N)) == uint64(v.N)
	case api.OpArg:
		return block == 0 && within(m.c.Params)
	case api.OpUn:
		_, e := word.Un(int(v.N), a[0], 0)
		return e != api.ErrWordKind && k == a[0]
	case api.OpBin:
		_, e := word.Bin(int(v.N), a[0], 0, 0)
		shift, asks := v.N == api.BinShl || v.N == api.BinShr, v.N >= api.BinEq
		return e != api.ErrWordKind && (shift && a[1] == u64 || !shift && a[1] == a[0]) && (asks && k == api.KindBool || !asks && k == a[0])
	case api.OpConv:
		_, e := word.Conv(a[0], k, 0)
		return e != api.ErrWordKind
	case api.OpPhi:
		return (isWord(k) || k == mem) && count(a, k) == len(a)
	case api.OpSel:
		return isWord(k) && slices.Equal(a, list(api.KindBool, k, k))
	case api.OpLoad:
		return size && isWord(k) && slices.Equal(a, list(ptr, mem))
	case api.OpInit:
		return block == 0 && k == mem
	case api.OpStore:
		return size && k == mem && a[0] == ptr && isWord(a[1]) && a[2] == mem
	case api.OpAlloc:
		return k == mem && slices.Equal(a, list(u64, mem))
	case api.OpBlock:
		return k == ptr && m.c.Values[v.Args[0]].Op == api.OpAlloc
	case api.OpEmit:
		return k == mem && a[0] >= api.KindBool && a[0] <= api.KindF64 && a[1] == mem
	case api.OpCall:
		return k == mem && slices.Equal(a, append(slices.Clone(m.u.Codes[v.N].Params), mem))
	case api.OpResult:
		call := m.c.Values[v.Args[0]]
		return call.Op == api.OpCall && within(m.u.Codes[call.N].Results)
	case api.OpData:
		return k == ptr && v.N >= 0 && v.N <= int64(len(m.u.Data))
	case api.OpAddr:
		one, two := len(a) == 1 && v.M == 0, len(a) == 2 && v.M >= 0 && v.M <= 1<<16 && a[1] == u64
		return size && k == ptr && a[0] == ptr && (one || two)
	}
	return true
}

// dominates tells whether without a no way comes to b.
func (m model) dominates(a, b int) bool { return !m.reach(a)[b] }

func (m model) behind(n, block, place int) bool {
	b, i, _ := m.home(n)
	return b == block && i < place || b != block && m.dominates(b, block)
}

func (m model) order() bool {
	end := func(b int) int { return len(m.c.Blocks[b].List) }
	return every(m.c.Values, func(n int, v api.Value) bool {
		return every(v.Args, func(i, a int) bool {
			b, place, _ := m.home(n)
			if v.Op == api.OpPhi {
				p := m.c.Blocks[b].Preds[i]
				return m.behind(a, p, end(p))
			}
			return m.behind(a, b, place)
		})
	}) && every(m.c.Blocks, func(n int, b api.Block) bool {
		return every(b.Args, func(_, a int) bool { return m.behind(a, n, end(n)) })
	})
}

// above tells the immediate dominator: the one that all other ones dominate.
func (m model) above(b int) int {
	for a := range m.c.Blocks {
		if a != b && m.isBlock(a) && m.dominates(a, b) && every(m.c.Blocks, func(x int, _ api.Block) bool {
			return x == b || !m.isBlock(x) || !m.dominates(x, b) || m.dominates(x, a)
		}) {
			return a
		}
	}
	return -1
}

// phi tells a block's OpPhis of KindMem.
func (m model) phi(b int) (l []int) {
	for _, n := range m.c.Blocks[b].List {
		if v := m.c.Values[n]; v.Op == api.OpPhi && v.Kind == api.KindMem {
			l = append(l, n)
		}
	}
	return l
}

// begin tells the memory at a block's beginning, end that at its end.
func (m model) begin(b int) int {
	if b == 0 {
		return slices.IndexFunc(m.c.Values, func(v api.Value) bool { return v.Op == api.OpInit })
	}
	if l := m.phi(b); len(l) > 0 {
		return l[0]
	}
	return m.end(m.above(b))
}

func (m model) end(b int) int {
	for _, n := range slices.Backward(m.c.Blocks[b].List) {
		switch m.c.Values[n].Op {
		case api.OpStore, api.OpAlloc, api.OpEmit, api.OpCall:
			return n
		}
	}
	return m.begin(b)
}

func (m model) memory() bool {
	return every(m.c.Blocks, func(b int, x api.Block) bool {
		if x.Kind == 0 {
			return true
		}
		phis, now := m.phi(b), m.begin(b)
		brings := func(i, p int) bool {
			if len(phis) == 1 {
				return m.c.Values[phis[0]].Args[i] == m.end(p)
			}
			return m.end(p) == now
		}
		if len(phis) > 1 || !every(x.Preds, brings) || (x.Kind == api.BlockRet || x.Kind == api.BlockPanic) && x.Args[len(x.Args)-1] != m.end(b) {
			return false
		}
		return every(x.List, func(_, n int) bool {
			v := m.c.Values[n]
			takes := slices.Contains([]int{api.OpLoad, api.OpStore, api.OpAlloc, api.OpEmit, api.OpCall}, v.Op)
			if takes && v.Args[len(v.Args)-1] != now {
				return false
			}
			if takes && v.Op != api.OpLoad {
				now = n
			}
			return true
		})
	})
}
