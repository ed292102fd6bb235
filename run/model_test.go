package run

import (
	"encoding/binary"
	"math/bits"

	"gantry/api"
	"gantry/cisc"
	"gantry/risc"
	"gantry/word"
)

// model is the chapter once more, as plainly as can be: bytes in one list, ends told by a number, all of both targets in one list of cases.
type model struct {
	target int
	code   []byte
	place  int64
	out    bool // the place is not within 0 to the length of code
	reg    [16]uint64
	bytes  []byte
	heap   int
	fk     int
	fx, fy uint64
	end    int
	number int64
	trace  []uint64
	last   api.Inst
}

func newModel(img api.Image, memory int, in []uint64) *model {
	m := &model{target: img.Target, code: img.Code, place: int64(img.Entry), bytes: make([]byte, memory), heap: 4096 + (len(img.Data)+7)/8*8}
	copy(m.bytes[4096:], img.Data)
	copy(m.reg[:], in)
	m.reg[15] = uint64(memory)
	return m
}

func (m *model) stop(end int, number int64) {
	if m.end == api.EndNone {
		m.end, m.number = end, number
	}
}

// piece are n bytes of the memory at a; nil, and the end, if they are not there.
func (m *model) piece(a uint64, n int) []byte {
	if a < 4096 || a > uint64(len(m.bytes)) || uint64(len(m.bytes))-a < uint64(n) {
		m.stop(api.EndStuck, 0)
		return nil
	}
	return m.bytes[a : a+uint64(n)]
}

func (m *model) load(a uint64, k int) uint64 {
	b := m.piece(a, word.Bytes(k))
	if b == nil {
		return 0
	}
	return word.Canon(k, binary.LittleEndian.Uint64(append(append([]byte{}, b...), make([]byte, 8)...)))
}

func (m *model) store(a uint64, k int, x uint64) {
	copy(m.piece(a, word.Bytes(k)), binary.LittleEndian.AppendUint64(nil, word.Canon(k, x)))
}

func (m *model) bin(op, k int, x, y uint64) uint64 {
	if op == api.BinShl || op == api.BinShr {
		y = word.Canon(api.KindU64, y)
	} else {
		y = word.Canon(k, y)
	}
	z, e := word.Bin(op, k, word.Canon(k, x), y)
	if e != api.OK {
		m.stop(api.EndStuck, 0)
	}
	return z
}

// set changes a register, unless the run has ended by what the word was made of.
func (m *model) set(n int, x uint64) {
	if m.end == api.EndNone {
		m.reg[n] = x
	}
}

func (m *model) says(op int) bool {
	if m.fk == api.KindNone {
		m.stop(api.EndStuck, 0)
		return false
	}
	return m.bin(op, m.fk, m.fx, m.fy) == 1
}

func (m *model) goTo(far int64) { m.place += far }

func (m *model) step() {
	if m.place < 0 || m.place > int64(len(m.code)) || m.out {
		m.stop(api.EndStuck, 0)
		return
	}
	decode := risc.Decode
	if m.target == api.TargetC {
		decode = cisc.Decode
	}
	i, n, e := decode(m.code[m.place:])
	if e != api.OK {
		m.stop(api.EndStuck, 0)
		return
	}
	m.place += int64(n)
	m.last = i
	if !m.plain(i) && !m.onR64(i) && !m.onC64(i) {
		panic("a row is missing")
	}
}

// plain are the rows that both targets have alike.
func (m *model) plain(i api.Inst) bool {
	a, b, imm := m.reg[i.A], m.reg[i.B], uint64(i.Imm)
	sp, limit := m.reg[15], uint64(len(m.bytes)-4096)
	switch i.Op {
	case api.InstMovI:
		m.set(i.A, imm)
	case api.InstMov:
		m.set(i.A, b)
	case api.InstConv:
		x, _ := word.Conv(i.Sub, i.K, word.Canon(i.Sub, b))
		m.set(i.A, x)
	case api.InstLoad:
		m.set(i.A, m.load(b+imm, i.K))
	case api.InstStore:
		m.store(b+imm, i.K, a)
	case api.InstJmp:
		m.goTo(i.Imm)
	case api.InstCall:
		m.set(15, sp-8)
		if sp-8 < limit {
			m.stop(api.EndResource, 0)
		} else {
			m.store(sp-8, api.KindU64, uint64(m.place))
			m.goTo(i.Imm)
		}
	case api.InstRet:
		to := m.load(sp, api.KindU64)
		m.place, m.out = int64(to), to > uint64(len(m.code))
		m.set(15, sp+8)
	case api.InstChk:
		if sp < limit+imm {
			m.stop(api.EndResource, 0)
		}
	case api.InstAlloc:
		if b > 1<<20 || m.heap+max(8, int(b+7)/8*8) > int(limit) {
			m.stop(api.EndResource, 0)
		} else {
			m.set(i.A, uint64(m.heap))
			m.heap += max(8, int(b+7)/8*8)
		}
	case api.InstEmit:
		m.trace = append(m.trace, a)
	case api.InstExit:
		m.stop(api.EndExit, int64(a))
	case api.InstPanic:
		m.stop(api.EndPanic, i.Imm)
	default:
		return false
	}
	return true
}

func (m *model) onR64(i api.Inst) bool {
	a, b, c := m.reg[i.A], m.reg[i.B], m.reg[i.C]
	if m.target != api.TargetR {
		return false
	}
	switch i.Op {
	case api.InstMovH:
		m.set(i.A, a&0xffffffff+uint64(uint32(i.Imm))<<32)
	case api.InstBin:
		m.set(i.A, m.bin(i.Sub, i.K, b, c))
	case api.InstUn:
		x, _ := word.Un(i.Sub, i.K, word.Canon(i.K, b))
		m.set(i.A, x)
	case api.InstAddI:
		sum, _ := bits.Add64(b, uint64(i.Imm), 0)
		m.set(i.A, sum)
	case api.InstSel:
		m.set(i.A, map[bool]uint64{true: c, false: m.reg[i.Imm]}[b != 0])
	case api.InstJnz, api.InstJz:
		if (a != 0) == (i.Op == api.InstJnz) {
			m.goTo(i.Imm)
		}
	default:
		return false
	}
	return true
}

func (m *model) onC64(i api.Inst) bool {
	a, b, imm := m.reg[i.A], m.reg[i.B], uint64(i.Imm)
	at := b + m.reg[i.C]*uint64(i.Scale) + imm
	switch i.Op {
	case api.InstBin:
		quotient := m.bin(i.Sub, i.K, a, b)
		if isInt := i.K >= api.KindI8 && i.K <= api.KindU64; isInt && (i.Sub == api.BinDiv || i.Sub == api.BinRem) {
			m.set(2, m.bin(api.BinDiv+api.BinRem-i.Sub, i.K, a, b))
		}
		m.set(i.A, quotient)
	case api.InstBinI:
		m.set(i.A, m.bin(i.Sub, i.K, a, imm))
	case api.InstBinM:
		m.set(i.A, m.bin(i.Sub, i.K, a, m.load(b+imm, i.K)))
	case api.InstUn:
		x, _ := word.Un(i.Sub, i.K, word.Canon(i.K, a))
		m.set(i.A, x)
	case api.InstLea:
		m.set(i.A, at)
	case api.InstLoadX:
		m.set(i.A, m.load(at, i.K))
	case api.InstStoreX:
		m.store(at, i.K, a)
	case api.InstCmp:
		m.fk, m.fx, m.fy = i.K, word.Canon(i.K, a), word.Canon(i.K, b)
	case api.InstCmpI:
		m.fk, m.fx, m.fy = i.K, word.Canon(i.K, a), word.Canon(i.K, imm)
	case api.InstSel:
		if m.says(i.Sub) {
			m.set(i.A, b)
		}
	case api.InstSet:
		m.set(i.A, map[bool]uint64{true: 1}[m.says(i.Sub)])
	case api.InstJcc:
		if m.says(i.Sub) {
			m.goTo(i.Imm)
		}
	default:
		return false
	}
	return true
}

// modelRun is Run by the model: calls are told apart by lists that are gone through from their beginning.
func modelRun(img api.Image, memory int, in []uint64, calls []api.Assign, fuel int) api.Run {
	m := newModel(img, memory, in)
	var told api.Run
	type away struct {
		call     int
		back, sp uint64
	}
	var list []away
	words := func(l []api.Place, sp uint64) []uint64 {
		var out []uint64
		for _, p := range l {
			x := m.reg[p.N%16]
			if p.Stack {
				x = 0
				if a := sp + 8 + 8*uint64(p.N); a >= 4096 && a+8 <= uint64(memory) {
					x = binary.LittleEndian.Uint64(m.bytes[a:])
				}
			}
			out = append(out, x)
		}
		return out
	}
	for m.end == api.EndNone && told.Steps < fuel {
		m.step()
		told.Steps++
		if m.end != api.EndNone || len(calls) == 0 {
			continue
		}
		sp := m.reg[15]
		switch m.last.Op {
		case api.InstCall:
			for f, at := range img.Funcs {
				if int64(at) == m.place {
					list = append(list, away{len(told.Calls), m.load(sp, api.KindU64), sp})
					told.Calls = append(told.Calls, api.Call{Func: f, Args: words(calls[f].Args, sp)})
					break
				}
			}
		case api.InstRet:
			if n := len(list) - 1; n >= 0 && (list[n].back != uint64(m.place) || list[n].sp+8 != sp) {
				m.stop(api.EndStuck, 0)
			} else if n >= 0 {
				c := &told.Calls[list[n].call]
				c.Back, c.Results = true, words(calls[c.Func].Results, sp-8)
				list = list[:n]
			}
		}
	}
	told.Trace, told.End, told.N = m.trace, m.end, m.number
	if m.end == api.EndNone {
		told.End = api.EndFuel
	}
	return told
}
