package charge_test

import (
	"testing"

	"armoire/charge"
)

// The chapter's example.
func TestExample(t *testing.T) {
	b := charge.Book{Blocks: 192, Items: 1}
	wantTree(t, b, 4)
	wantAll(t, b, 86)
	wantLeft(t, b, 106)
	wantMore(t, b, 10)
	wantFits(t, b, 10, true)
	wantFits(t, b, 11, false)
}

// P20.1: Tree is a quarter of the items, cut off, and 4.
func TestTree(t *testing.T) {
	for items, want := range []int{4, 4, 4, 4, 5, 5, 5, 5, 6, 6, 6, 6, 7} {
		wantTree(t, charge.Book{Items: items}, want)
	}
	wantTree(t, charge.Book{Items: 40}, 14)
	wantTree(t, charge.Book{Items: most - 1}, 250003)
	wantTree(t, charge.Book{Items: most}, 250004)
}

// P20.1: Tree asks for nothing but the items.
func TestTreeOfItemsAlone(t *testing.T) {
	for _, n := range odd() {
		wantTree(t, charge.Book{Blocks: n, Items: 21, Window: n, Pending: n}, 9)
	}
}

// P20.1: each part of the charge, alone and with the others.
func TestAll(t *testing.T) {
	for _, x := range []struct {
		b    charge.Book
		want int
	}{
		{charge.Book{}, 2 + 64 + 16 + 4},
		{charge.Book{Items: 3}, bare},
		{charge.Book{Items: 4}, bare + 1},
		{charge.Book{Items: 8}, bare + 2},
		{charge.Book{Window: 1}, bare + 9},
		{charge.Book{Window: 2}, bare + 18},
		{charge.Book{Pending: 1}, bare + 10},
		{charge.Book{Pending: 2}, bare + 20},
		{charge.Book{Items: 40, Window: 5, Pending: 3}, bare + 10 + 45 + 30},
		{charge.Book{Items: most}, bare + 250000},
		{charge.Book{Window: most}, bare + 9*most},
		{charge.Book{Pending: most}, bare + 10*most},
		{charge.Book{Items: most, Window: most, Pending: most}, bare + 250000 + 19*most},
	} {
		wantAll(t, x.b, x.want)
	}
}

// P20.1: the charge is the same, however large the disk is.
func TestAllOfAnyDisk(t *testing.T) {
	for _, n := range odd() {
		wantAll(t, charge.Book{Blocks: n, Items: 4, Window: 1, Pending: 1}, bare+20)
	}
}

// P20.1: Left at the edge where nothing is left, and far beyond.
func TestLeft(t *testing.T) {
	for _, x := range []struct {
		b    charge.Book
		want int
	}{
		{charge.Book{}, 0},
		{charge.Book{Blocks: 1}, 0},
		{charge.Book{Blocks: bare - 1}, 0},
		{charge.Book{Blocks: bare}, 0},
		{charge.Book{Blocks: bare + 1}, 1},
		{charge.Book{Blocks: bare + 19, Window: 1, Pending: 1}, 0},
		{charge.Book{Blocks: bare + 20, Window: 1, Pending: 1}, 1},
		{charge.Book{Blocks: 192, Items: 1, Pending: 10}, 6},
		{charge.Book{Blocks: 192, Items: 1, Pending: 11}, 0},
		{charge.Book{Blocks: 1024}, 1024 - bare},
		{charge.Book{Blocks: most}, most - bare},
		{charge.Book{Blocks: 192, Items: most, Window: most, Pending: most}, 0},
	} {
		wantLeft(t, x.b, x.want)
	}
}

// P20.2: a place more for each 10 blocks that are left, and just so many fit.
func TestMore(t *testing.T) {
	for left := range 64 {
		wantMore(t, charge.Book{Blocks: bare + left}, left/10)
		wantMore(t, charge.Book{Blocks: bare + 19 + left, Window: 1, Pending: 1}, left/10)
	}
	wantMore(t, charge.Book{Blocks: most}, (most-bare)/10)
}

// P20.2: where more is charged than the disk has, none more may be written, and none fits still.
func TestMoreOfNone(t *testing.T) {
	for _, b := range []charge.Book{
		{},
		{Blocks: bare - 1},
		{Blocks: 192, Pending: 11},
		{Blocks: 192, Window: 1 << 62},
		{Blocks: -1},
	} {
		wantMore(t, b, 0)
	}
}

// wantBelow: what is below 0 counts as 0, in each of the fields.
func wantBelow(t *testing.T, n int) {
	t.Helper()
	wantTree(t, charge.Book{Items: n}, 4)
	wantAll(t, charge.Book{Items: n}, bare)
	wantAll(t, charge.Book{Window: n}, bare)
	wantAll(t, charge.Book{Pending: n}, bare)
	wantLeft(t, charge.Book{Blocks: n}, 0)
	b := charge.Book{Blocks: 1024, Items: n, Window: n, Pending: n}
	wantAll(t, b, bare)
	wantLeft(t, b, 938)
	wantMore(t, b, 93)
}

// wantAbove: what is above a million counts as that, in each of the fields.
func wantAbove(t *testing.T, n int) {
	t.Helper()
	wantTree(t, charge.Book{Items: n}, 250004)
	wantAll(t, charge.Book{Items: n}, bare+250000)
	wantAll(t, charge.Book{Window: n}, bare+9*most)
	wantAll(t, charge.Book{Pending: n}, bare+10*most)
	wantLeft(t, charge.Book{Blocks: n}, most-bare)
	wantMore(t, charge.Book{Blocks: n}, 99991)
	b := charge.Book{Blocks: n, Items: n, Window: n, Pending: n}
	wantAll(t, b, bare+250000+19*most)
	wantLeft(t, b, 0)
	wantMore(t, b, 0)
}

// Words: what counts at the most, and at the least, in all promises.
func TestWhatCounts(t *testing.T) {
	for _, n := range below {
		wantBelow(t, n)
	}
	for _, n := range append([]int{most}, above...) {
		wantAbove(t, n)
	}
}
