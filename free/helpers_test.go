package free_test

import (
	"slices"
	"testing"

	"armoire/api"
	"armoire/free"
)

// far are numbers at the ends of int, where a sum or a difference wraps round.
var far = []int{-1 << 63, -1<<63 + 1, -1 << 32, 1 << 32, 1<<63 - 2, 1<<63 - 1}

// span are the numbers from from on up to to.
func span(from, to int) []int {
	var l []int
	for i := from; i < to; i++ {
		l = append(l, i)
	}
	return l
}

func newMap(t *testing.T, from, to int, taken ...int) *free.Map {
	t.Helper()
	m, err := free.New(from, to, taken)
	if m == nil || err != api.OK {
		t.Fatalf("New(%d, %d, %v): got %v, %d", from, to, taken, m, err)
	}
	return m
}

// deferred lets each of them wait.
func deferred(t *testing.T, m *free.Map, blocks ...int) {
	t.Helper()
	for _, i := range blocks {
		wantDefer(t, m, i, api.OK)
	}
}

func wantNewErr(t *testing.T, from, to int, taken []int, want api.Errno) {
	t.Helper()
	if m, err := free.New(from, to, taken); m != nil || err != want {
		t.Errorf("New(%d, %d, %v): got %v, %d, want none, %d", from, to, taken, m, err, want)
	}
}

func wantTake(t *testing.T, m *free.Map, want int, wantErr api.Errno) {
	t.Helper()
	if i, err := m.Take(); i != want || err != wantErr {
		t.Errorf("Take: got %d, %d, want %d, %d", i, err, want, wantErr)
	}
}

func wantRun(t *testing.T, m *free.Map, n, want int, wantErr api.Errno) {
	t.Helper()
	if i, err := m.TakeRun(n); i != want || err != wantErr {
		t.Errorf("TakeRun(%d): got %d, %d, want %d, %d", n, i, err, want, wantErr)
	}
}

func wantGive(t *testing.T, m *free.Map, i int, want api.Errno) {
	t.Helper()
	if err := m.Give(i); err != want {
		t.Errorf("Give(%d): got %d, want %d", i, err, want)
	}
}

func wantDefer(t *testing.T, m *free.Map, i int, want api.Errno) {
	t.Helper()
	if err := m.Defer(i); err != want {
		t.Errorf("Defer(%d): got %d, want %d", i, err, want)
	}
}

func wantSweep(t *testing.T, m *free.Map, keep []int, want int) {
	t.Helper()
	if n := m.Sweep(keep); n != want {
		t.Errorf("Sweep(%v): got %d, want %d", keep, n, want)
	}
}

// wantLists holds the three lists against what they are to be, and each block's Is against them.
func wantLists(t *testing.T, m *free.Map, isFree, taken, waiting []int) {
	t.Helper()
	for k, l := range [][2][]int{{m.Free(), isFree}, {m.Taken(), taken}, {m.Waiting(), waiting}} {
		if !slices.Equal(l[0], l[1]) {
			t.Errorf("list %d: got %v, want %v", k+1, l[0], l[1])
		}
		for _, i := range l[1] {
			wantIs(t, m, i, k+1)
		}
	}
}

func wantIs(t *testing.T, m *free.Map, i, want int) {
	t.Helper()
	if got := m.Is(i); got != want {
		t.Errorf("Is(%d): got %d, want %d", i, got, want)
	}
}
