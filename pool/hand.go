package pool

// cloner is whatever can be had twice.
type cloner[T any] interface{ Clone() T }

// hand is what is at hand: as it is now, and as it was when it was settled last.
type hand[T cloner[T]] struct {
	now, settled T
}

func handOf[T cloner[T]](x T) hand[T] { return hand[T]{now: x, settled: x.Clone()} }

func (h *hand[T]) settle() { h.settled = h.now.Clone() }

func (h *hand[T]) undo() { h.now = h.settled.Clone() }
