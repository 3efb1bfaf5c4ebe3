package charge_test

import (
	"math"
	"testing"

	"armoire/charge"
)

// most is what counts at the most, bare the charge of a book in which nothing counts.
const (
	most = 1000000
	bare = 86
)

// below and above are numbers beyond what counts, up to the ends of int, where a sum or a product wraps round.
var (
	below = []int{-1, -3, -4, -5, -10, -most, -1 << 31, -1 << 32, math.MinInt + 1, math.MinInt}
	above = []int{most + 1, most + 4, most + 10, 2 * most, 1 << 31, 1 << 32, 1 << 60, 1 << 61, 1 << 62, math.MaxInt - 4, math.MaxInt}
)

// odd are numbers at the edges of what counts, and beyond.
func odd() []int {
	l := []int{0, 1, 2, 3, 4, 5, 7, 8, 9, 85, 86, 87, 95, 96, 97, 192, 1024, most - 10, most - 1, most}
	return append(append(l, below...), above...)
}

func wantTree(t *testing.T, b charge.Book, want int) {
	t.Helper()
	if got := b.Tree(); got != want {
		t.Errorf("Tree of %+v: got %d, want %d", b, got, want)
	}
}

func wantAll(t *testing.T, b charge.Book, want int) {
	t.Helper()
	if got := b.All(); got != want {
		t.Errorf("All of %+v: got %d, want %d", b, got, want)
	}
}

func wantLeft(t *testing.T, b charge.Book, want int) {
	t.Helper()
	if got := b.Left(); got != want {
		t.Errorf("Left of %+v: got %d, want %d", b, got, want)
	}
}

// wantMore: just so many fit, and none and less than none always do.
func wantMore(t *testing.T, b charge.Book, want int) {
	t.Helper()
	if got := b.More(); got != want {
		t.Errorf("More of %+v: got %d, want %d", b, got, want)
	}
	for _, more := range append([]int{0, want - 1, want}, below...) {
		wantFits(t, b, more, true)
	}
	for _, more := range append([]int{want + 1, want + 2, want + most}, above...) {
		wantFits(t, b, more, false)
	}
}

func wantFits(t *testing.T, b charge.Book, more int, want bool) {
	t.Helper()
	if got := b.Fits(more); got != want {
		t.Errorf("Fits(%d) of %+v: got %v", more, b, got)
	}
}
