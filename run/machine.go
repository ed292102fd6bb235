package run

import (
	"gantry/api"
	"gantry/mem"
	"gantry/word"
)

// slot is what a word takes on the stack, and in the heap, in bytes.
const slot = 8

// machine is what both targets meet: one step, which tells its instruction, and panics where it is stuck.
type machine interface {
	step() api.Inst
}

// stuck is what a step panics with.
type stuck struct{}

// core is what both machines have. The place and addresses are words that wrap round: what has left the code, or the memory, on either side, is far above it.
type core struct {
	code   []byte
	place  uint64
	regs   [api.Regs]uint64
	memory *mem.Mem
	heap   uint64
	limit  uint64
	end    int
	number int64
}

// coreOf tells what both machines have of one of them. A machine that nobody has begun has no code: it is stuck.
func coreOf(m machine) *core {
	switch x := m.(type) {
	case *r64:
		return &x.core
	case *c64:
		return &x.core
	}
	return &core{end: api.EndStuck}
}

// goOn takes a step; where that is stuck, it is the run's end.
func goOn(m machine) api.Inst {
	defer func() {
		if recover() != nil {
			coreOf(m).finish(api.EndStuck, 0)
		}
	}()
	return m.step()
}

func must(e api.Errno) {
	if e != api.OK {
		panic(stuck{})
	}
}

func (c *core) finish(end int, number int64) {
	c.end, c.number = end, number
}

// fetch tells the instruction at the place, and goes behind it.
func (c *core) fetch(decode func([]byte) (api.Inst, int, api.Errno)) api.Inst {
	if c.place > uint64(len(c.code)) {
		panic(stuck{})
	}
	i, n, e := decode(c.code[c.place:])
	must(e)
	c.place += uint64(n)
	return i
}

// both does what an instruction that both targets have does. InstEmit changes nothing here: what is told is asked of its register behind the step.
func (c *core) both(i api.Inst) {
	r := &c.regs
	switch i.Op {
	case api.InstMovI:
		r[i.A] = uint64(i.Imm)
	case api.InstMov:
		r[i.A] = r[i.B]
	case api.InstConv:
		r[i.A] = conv(i.Sub, i.K, r[i.B])
	case api.InstLoad:
		r[i.A] = c.load(r[i.B]+uint64(i.Imm), i.K)
	case api.InstStore:
		c.store(r[i.B]+uint64(i.Imm), i.K, r[i.A])
	case api.InstJmp:
		c.jump(i.Imm)
	case api.InstCall:
		c.call(i.Imm)
	case api.InstRet:
		c.place = c.load(r[api.RegSP], api.KindU64)
		r[api.RegSP] += slot
	case api.InstChk:
		if r[api.RegSP] < c.limit+uint64(i.Imm) {
			c.finish(api.EndResource, 0)
		}
	case api.InstAlloc:
		c.alloc(i.A, r[i.B])
	case api.InstExit:
		c.finish(api.EndExit, int64(r[i.A]))
	case api.InstPanic:
		c.finish(api.EndPanic, i.Imm)
	}
}

func (c *core) load(a uint64, k int) uint64 {
	x, e := c.memory.Load(a, k)
	must(e)
	return x
}

func (c *core) store(a uint64, k int, x uint64) {
	must(c.memory.Store(a, k, word.Canon(k, x)))
}

func (c *core) jump(far int64) {
	c.place += uint64(far)
}

func (c *core) call(far int64) {
	sp := &c.regs[api.RegSP]
	*sp -= slot
	if *sp < c.limit {
		c.finish(api.EndResource, 0)
		return
	}
	c.store(*sp, api.KindU64, c.place)
	c.jump(far)
}

func (c *core) alloc(to int, size uint64) {
	n, ok := roundUp(max(size, 1))
	if !ok || n > api.MaxMemory || c.heap+n > c.limit {
		c.finish(api.EndResource, 0)
		return
	}
	c.regs[to] = c.heap
	c.heap += n
}

// roundUp tells the next multiple of a slot; false, if no word has it.
func roundUp(n uint64) (uint64, bool) {
	up := (n + slot - 1) / slot * slot
	return up, up >= n
}

// bin is word.Bin of what registers hold.
func bin(op, k int, x, y uint64) uint64 {
	z, e := word.Bin(op, k, word.Canon(k, x), word.Canon(secondKind(op, k), y))
	must(e)
	return z
}

// secondKind is the kind of an operation's second word.
func secondKind(op, k int) int {
	if op == api.BinShl || op == api.BinShr {
		return api.KindU64
	}
	return k
}

func un(op, k int, x uint64) uint64 {
	z, e := word.Un(op, k, word.Canon(k, x))
	must(e)
	return z
}

func conv(from, to int, x uint64) uint64 {
	z, e := word.Conv(from, to, word.Canon(from, x))
	must(e)
	return z
}
