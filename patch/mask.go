package patch

import (
	"iter"

	"armoire/api"
)

// bitsFrom are the bits of the bytes from off on; at the chunk's end all of them are shifted out, so that none is left.
func bitsFrom(off int) uint32 { return ^uint32(0) << off }

// runs goes through the bytes whose bits are set, from one up to another: those side by side at once, so that they are moved together.
func runs(mask uint32) iter.Seq2[int, int] {
	return func(yield func(int, int) bool) {
		for from := 0; from < api.Chunk; from++ {
			to := runEnd(mask, from)
			if from < to && !yield(from, to) {
				return
			}
			from = to
		}
	}
}

// runEnd is the first byte from one on whose bit is not set.
func runEnd(mask uint32, from int) int {
	for from < api.Chunk && mask>>from&1 == 1 {
		from++
	}
	return from
}
