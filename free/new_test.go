package free_test

import (
	"slices"
	"testing"

	"armoire/api"
	"armoire/free"
)

// P6.1: from is 0 or above, to is above from, at most MaxBlocks.
func TestNewBounds(t *testing.T) {
	for _, x := range []struct{ from, to int }{{0, 1}, {0, 2}, {7, 8}, {4, 10}, {0, 1024}, {1023, 1024}, {2, 192}} {
		m := newMap(t, x.from, x.to)
		wantLists(t, m, span(x.from, x.to), nil, nil)
		wantIs(t, m, x.from-1, 0)
		wantIs(t, m, x.to, 0)
	}
	for _, x := range []struct{ from, to int }{
		{-1, 5}, {-1, 0}, {-1, -1}, {-5, -2}, // from below 0
		{0, 0}, {5, 5}, {1024, 1024}, {5, 4}, {5, 0}, {5, -1}, {0, -1}, // to not above from
		{0, 1025}, {1023, 1025}, {1024, 1025}, {1025, 1026}, // to above MaxBlocks
	} {
		wantNewErr(t, x.from, x.to, nil, api.ErrArg)
	}
	for _, i := range far {
		wantNewErr(t, i, 5, nil, api.ErrArg)
		wantNewErr(t, 5, i, nil, api.ErrArg)
		wantNewErr(t, i, i, nil, api.ErrArg)
	}
}

// P6.1: those of taken are taken, in whichever order they stand; the others are free.
func TestNewTaken(t *testing.T) {
	for _, x := range []struct{ taken, isFree []int }{
		{nil, span(4, 10)},
		{[]int{}, span(4, 10)},
		{[]int{4}, span(5, 10)},
		{[]int{9}, span(4, 9)},
		{[]int{9, 4, 6}, []int{5, 7, 8}},
		{[]int{9, 8, 7, 6, 5, 4}, nil},
		{span(4, 10), nil},
	} {
		m := newMap(t, 4, 10, x.taken...)
		wantLists(t, m, x.isFree, slices.Sorted(slices.Values(x.taken)), nil)
	}
}

// P6.1: one of taken that is none of the blocks, one that stands there twice.
func TestNewRefusesTaken(t *testing.T) {
	for _, taken := range [][]int{{3}, {10}, {-1}, {0}, {1024}, {4, 10}, {3, 9}, slices.Concat(span(4, 10), []int{10})} {
		wantNewErr(t, 4, 10, taken, api.ErrArg)
	}
	for _, i := range far {
		wantNewErr(t, 4, 10, []int{5, i}, api.ErrArg)
	}
	for _, taken := range [][]int{{4, 4}, {9, 9}, {5, 6, 5}, {6, 6, 6}, slices.Concat(span(4, 10), []int{4})} {
		wantNewErr(t, 4, 10, taken, api.ErrTwice)
	}
}

// R2: ErrArg stands ahead of ErrTwice, wherever the two faults stand in the list.
func TestNewOrderOfErrors(t *testing.T) {
	for _, taken := range [][]int{{5, 5, 10}, {10, 5, 5}, {5, 10, 5}, {10, 10}, {3, 3}} {
		wantNewErr(t, 4, 10, taken, api.ErrArg)
	}
	wantNewErr(t, 10, 4, []int{5, 5}, api.ErrArg)
}

// R4: taken is neither changed nor kept, nor the spare room behind it.
func TestNewKeepsNothing(t *testing.T) {
	room := []int{7, 5, 8, 9}
	m, err := free.New(4, 10, room[:2])
	if err != api.OK || !slices.Equal(room, []int{7, 5, 8, 9}) {
		t.Fatalf("New: got %d, its list is %v", err, room)
	}
	for i := range room {
		room[i] = 4
	}
	wantLists(t, m, []int{4, 6, 8, 9}, []int{5, 7}, nil)
}
