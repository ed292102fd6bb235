package mem

// width is the unsigned numbers in whose widths words of all kinds lie.
type width interface {
	uint8 | uint16 | uint32 | uint64
}

// read is the number that fills b, its lowest byte first.
func read[W width](b []byte) W {
	var x W
	for i, c := range b {
		x |= W(c) << (8 * i)
	}
	return x
}

// write fills b with the number x, its lowest byte first.
func write[W width](b []byte, x W) {
	for i := range b {
		b[i] = byte(x >> (8 * i))
	}
}

// pick reads the number of the width that b has.
func pick(b []byte) uint64 {
	switch len(b) {
	case 1:
		return uint64(read[uint8](b))
	case 2:
		return uint64(read[uint16](b))
	case 4:
		return uint64(read[uint32](b))
	}
	return read[uint64](b)
}

// lay writes x's lowest bytes, as many as b has.
func lay(b []byte, x uint64) {
	switch len(b) {
	case 1:
		write(b, uint8(x))
	case 2:
		write(b, uint16(x))
	case 4:
		write(b, uint32(x))
	default:
		write(b, x)
	}
}
