package course

import "gantry/api"

// align is what the heap and its blocks are multiples of, in bytes.
const align = 8

func roundUp(n uint64) uint64 { return (n + align - 1) / align * align }

// Block tells where a new block of so many bytes begins. No block was another one ahead of it, so its bytes are 0 still.
func (c *Course) Block(bytes uint64) uint64 {
	if bytes > api.MaxMemory {
		// Ahead of all sums, for they may wrap round.
		Stop(api.EndResource, 0)
	}
	begins := c.heap
	end := begins + roundUp(max(bytes, 1))
	if end > api.MaxMemory {
		Stop(api.EndResource, 0)
	}
	c.heap = end
	return begins
}

// Holds tells whether so many bytes from a on lie from DataBase on and ahead of the heap, as it is now.
func (c *Course) Holds(a uint64, bytes int) bool {
	// Not a+bytes > heap: that sum may wrap round.
	return a >= api.DataBase && a <= c.heap && uint64(bytes) <= c.heap-a
}
