package sample

import "gantry/api"

// pure lays a value that makes no memory.
func (m *maker) pure(b int) {
	switch k := m.kind(); m.Next(12) {
	case 0:
		m.add(b, api.OpConst, k, m.word(k))
	case 1:
		m.unary(b)
	case 2, 3, 4:
		m.binary(b)
	case 5:
		m.add(b, api.OpConv, m.number(), 0, m.one(b, m.number()))
	case 6:
		m.add(b, api.OpSel, k, 0, m.one(b, api.KindBool), m.one(b, k), m.one(b, k))
	case 7:
		m.add(b, api.OpLoad, k, int64(m.Next(9)), m.one(b, api.KindPtr), m.end[b])
	case 8:
		m.add(b, api.OpData, api.KindPtr, int64(m.Next(len(m.u.Data)+1)))
	case 9:
		m.add(b, api.OpAddr, api.KindPtr, int64(m.Next(9)), m.one(b, api.KindPtr))
	case 10:
		n := m.add(b, api.OpAddr, api.KindPtr, int64(m.Next(9)), m.one(b, api.KindPtr), m.one(b, api.KindU64))
		m.c.Values[n].M = m.Next(9)
	case 11:
		m.again(b)
	}
}

// number tells an int kind, or KindF64.
func (m *maker) number() int { return api.KindI8 + m.Next(api.KindF64-api.KindI8+1) }

func (m *maker) unary(b int) {
	k := m.kind()
	switch {
	case k == api.KindBool:
		m.add(b, api.OpUn, k, api.UnNot, m.one(b, k))
	case k == api.KindF64:
		m.add(b, api.OpUn, k, api.UnNeg, m.one(b, k))
	case k != api.KindPtr:
		m.add(b, api.OpUn, k, Pick(m.Turns, []int64{api.UnNeg, api.UnCom}), m.one(b, k))
	}
}

func (m *maker) binary(b int) {
	k := m.kind()
	op := int64(api.BinAdd + m.Next(api.BinGe))
	switch k {
	case api.KindBool:
		op = Pick(m.Turns, []int64{api.BinAnd, api.BinOr, api.BinXor, api.BinEq, api.BinNe})
	case api.KindF64:
		op = Pick(m.Turns, []int64{api.BinAdd, api.BinSub, api.BinMul, api.BinDiv, api.BinEq, api.BinLt, api.BinGe})
	case api.KindPtr:
		op = Pick(m.Turns, []int64{api.BinEq, api.BinNe})
	}
	second, told := k, k
	if op == api.BinShl || op == api.BinShr {
		second = api.KindU64
	}
	if op >= api.BinEq {
		told = api.KindBool
	}
	m.add(b, api.OpBin, told, op, m.one(b, k), m.one(b, second))
}

// again lays an OpBlock of an OpAlloc, an OpResult of an OpCall, that is there, if one is.
func (m *maker) again(b int) {
	n := m.one(b, api.KindMem)
	switch v := m.c.Values[n]; v.Op {
	case api.OpAlloc:
		m.add(b, api.OpBlock, api.KindPtr, 0, n)
	case api.OpCall:
		m.results(b, n, int(v.N))
	}
}

// results lays what a call tells, word by word, not always all of it.
func (m *maker) results(b, call, f int) {
	for i, k := range m.u.Codes[f].Results {
		if m.Next(4) > 0 {
			m.add(b, api.OpResult, k, int64(i), call)
		}
	}
}

// write lays a value that makes memory, more often than not with those that tell of it.
func (m *maker) write(b int) {
	now := m.end[b]
	switch m.Next(4) {
	case 0:
		m.end[b] = m.add(b, api.OpStore, api.KindMem, int64(m.Next(9)), m.one(b, api.KindPtr), m.one(b, m.kind()), now)
	case 1:
		m.end[b] = m.add(b, api.OpAlloc, api.KindMem, 0, m.one(b, api.KindU64), now)
		m.add(b, api.OpBlock, api.KindPtr, 0, m.end[b])
	case 2:
		m.end[b] = m.add(b, api.OpEmit, api.KindMem, 0, m.one(b, api.KindBool+m.Next(api.KindF64)), now)
	case 3:
		m.call(b)
	}
}

func (m *maker) call(b int) {
	f := m.Next(len(m.u.Codes))
	var args []int
	for _, k := range m.u.Codes[f].Params {
		args = append(args, m.one(b, k))
	}
	m.end[b] = m.add(b, api.OpCall, api.KindMem, int64(f), append(args, m.end[b])...)
	m.results(b, m.end[b], f)
}
