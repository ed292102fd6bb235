package cisc

import "gantry/api"

// reader goes through bytes one by one; where they end, or tell what may not go on, it panics with the error's number.
type reader struct {
	bytes []byte
	at    int
}

// read tells what the bytes of the first one's row say, and how many they are, whether or not that is an instruction.
func read(b []byte) (i api.Inst, n int, e api.Errno) {
	defer func() {
		if fault, ok := recover().(api.Errno); ok {
			i, n, e = api.Inst{}, 0, fault
		}
	}()
	r := &reader{bytes: b}
	i = r.inst()
	return i, r.at, api.OK
}

func (r *reader) inst() api.Inst {
	i := api.Inst{Op: r.next()}
	parts, ok := row(i.Op)
	if !ok {
		panic(api.ErrCiscForm)
	}
	size := sizeOne
	for _, p := range parts {
		switch p {
		case partAB:
			i.A, i.B = r.pair()
		case partAn:
			i.A, size = r.pair()
			checkSize(i.Op, size)
		case partCS:
			c, log := r.pair()
			i.C, i.Scale = c, scaleOf(log)
		case partK:
			i.K = r.next()
		case partSub:
			i.Sub = r.next()
		case partSize:
			size = r.next()
			checkSize(i.Op, size)
		case partCond:
			cond, s := r.pair()
			i.Sub, size = cond+api.BinEq, s
			checkSize(i.Op, size)
		case partImm:
			i.Imm = r.sized(size)
		case partImm4:
			i.Imm = r.number(4)
		}
	}
	return i
}

func (r *reader) next() int {
	if r.at >= len(r.bytes) {
		panic(api.ErrCiscShort)
	}
	x := r.bytes[r.at]
	r.at++
	return int(x)
}

func (r *reader) pair() (upper, lower int) {
	x := r.next()
	return x / 16, x % 16
}

// number is a signed number of n bytes.
func (r *reader) number(n int) int64 {
	x := uint64(0)
	for at := range n {
		x |= uint64(r.next()) << (8 * at)
	}
	spare := 64 - 8*n
	return int64(x<<spare) >> spare
}

// sized is a number of that size, which must be its least one. A number is the last of its row: so nothing that ends too early can come behind this fault.
func (r *reader) sized(size int) int64 {
	x := r.number(bytesOf(size))
	if sizeOf(x) != size {
		panic(api.ErrCiscForm)
	}
	return x
}

// checkSize stops at a size that is none: how many bytes follow it, nobody could tell.
func checkSize(code, size int) {
	if size > sizeEight || size == sizeEight && code != api.InstMovI {
		panic(api.ErrCiscForm)
	}
}

func scaleOf(log int) int {
	if log == noScale {
		return 0
	}
	return 1 << log
}
