package version_test

import (
	"math"
	"slices"
	"testing"

	"armoire/api"
	"armoire/version"
)

// five has a snapshot of each of the versions 100 to 103, numbered 1 to 4, and the trunk 104; each version changes ten times as many places as the one ahead of it.
func five(t *testing.T) *version.Registry {
	t.Helper()
	r := newRegistry(t, 50, 100)
	places := 1
	for i := range 4 {
		r.Open()
		wantNext(t, r, uint32(40-10*i), places, api.OK)
		places *= 10
	}
	wantSeen(t, r, 100, 1111, 10, 20, 30, 40, 50)
	return r
}

// P10.4: Kept of the trunk alone, whatever was there before and was opened and closed.
func TestKeptOfTrunkAlone(t *testing.T) {
	r := newRegistry(t, 7, 0)
	wantSeen(t, r, 0, 0, 7)
	wantNext(t, r, 3, 1, api.OK)
	wantNext(t, r, 9, 1, api.OK)
	wantSeen(t, r, 2, 2, 9)
	r.Open()
	wantNext(t, r, 4, 1, api.OK)
	wantClose(t, r, 1, api.OK)
	wantSeen(t, r, 3, 3, 4)
}

// P10.4: Kept rises, in whichever order the roots came, and has each once: that of several snapshots, of one version or of several, and the trunk's that a snapshot sees too.
func TestKept(t *testing.T) {
	for _, roots := range [][]uint32{
		{5, 5},
		{5, 5, 5, 5},
		{9, 5, 7, 1},
		{1, 5, 7, 9},
		{9, 7, 5, 1},
		{5, 9, 5, 9, 5},
		{9, 5, 9, 5, 5},
		{lastRoot, 0, 1 << 31, 1<<31 - 1, 0, lastRoot, 2},
		{0, lastRoot, 0},
		{0, 0, 0},
	} {
		r := newRegistry(t, roots[0], 0)
		for _, root := range roots[1:] {
			r.Open()
			r.Open()
			wantNext(t, r, root, 1, api.OK)
		}
		want := slices.Compact(slices.Sorted(slices.Values(roots)))
		wantSeen(t, r, 0, len(roots)-1, want...)
		r.Open()
		wantSeen(t, r, 0, len(roots)-1, want...)
	}
}

// P10.4: a root is kept as long as one of those that see it is open.
func TestKeptTillTheLastCloses(t *testing.T) {
	r := newRegistry(t, 7, 0)
	wantOpen(t, r, 1, 7, 0)
	wantNext(t, r, 8, 0, api.OK)
	wantOpen(t, r, 2, 8, 1)
	wantNext(t, r, 7, 0, api.OK)
	wantOpen(t, r, 3, 7, 2)
	wantNext(t, r, 9, 0, api.OK)
	wantSeen(t, r, 0, 0, 7, 8, 9)
	wantClose(t, r, 1, api.OK)
	wantSeen(t, r, 1, 0, 7, 8, 9)
	wantClose(t, r, 3, api.OK)
	wantSeen(t, r, 1, 0, 8, 9)
	wantNext(t, r, 8, 0, api.OK)
	wantSeen(t, r, 1, 0, 8)
	wantClose(t, r, 2, api.OK)
	wantSeen(t, r, 4, 0, 8)
}

// R4: the list is new memory, its spare room too: whoever writes it over changes neither the registry nor another answer.
func TestKeptIsNew(t *testing.T) {
	r := five(t)
	r.Open()
	l, other := r.Kept(), r.Kept()
	l = l[:cap(l)]
	for i := range l {
		l[i] = 77
	}
	if slices.Contains(other[:cap(other)], 77) {
		t.Errorf("two answers share memory")
	}
	wantSeen(t, r, 100, 1111, 10, 20, 30, 40, 50)
	wantTrunk(t, r, 10, 104)
	for i := range 5 {
		wantSnapshot(t, r, i+1, uint32(50-10*i), uint64(100+i))
	}
	wantOpen(t, r, 6, 10, 104)
}

// P10.4: Horizon with nobody is the trunk's version.
func TestHorizonOfNobody(t *testing.T) {
	r := newRegistry(t, 7, 100)
	for i := range 5 {
		wantSeen(t, r, uint64(100+i), i, 7)
		wantNext(t, r, 7, 1, api.OK)
	}
	r.Open()
	r.Open()
	wantNext(t, r, 7, 1, api.OK)
	wantClose(t, r, 2, api.OK)
	wantClose(t, r, 1, api.OK)
	wantSeen(t, r, 106, 6, 7)
}

// P10.4: Horizon and Window as the snapshots are closed, the eldest one first, last, in the midst; Close alone moves no base, Settle moves it to the Horizon.
func TestHorizon(t *testing.T) {
	behind := []int{1111, 1110, 1100, 1000, 0} // what was changed behind each of the five versions
	for _, order := range [][]int{
		{1, 2, 3, 4}, {4, 3, 2, 1}, {2, 1, 3, 4}, {2, 3, 1, 4}, {3, 4, 1, 2}, {1, 4, 2, 3}, {4, 2, 1, 3},
	} {
		r, settled := five(t), five(t)
		seen := []int{1, 2, 3, 4, 5}
		for _, id := range order {
			wantClose(t, r, id, api.OK)
			wantClose(t, settled, id, api.OK)
			settled.Settle()
			seen = slices.DeleteFunc(seen, func(i int) bool { return i == id })
			var kept []uint32
			for _, i := range seen {
				kept = append(kept, uint32(60-10*i))
			}
			slices.Sort(kept)
			eldest := seen[0]
			wantSeen(t, r, uint64(99+eldest), 1111, kept...)
			wantSeen(t, settled, uint64(99+eldest), behind[eldest-1], kept...)
		}
	}
}

// P10.4: of two snapshots of the eldest version the one that stays holds the Horizon and the base.
func TestHorizonOfTwo(t *testing.T) {
	for _, first := range []int{1, 2} {
		r := newRegistry(t, 7, 5)
		r.Open()
		r.Open()
		wantNext(t, r, 8, 3, api.OK)
		wantClose(t, r, first, api.OK)
		r.Settle()
		wantSeen(t, r, 5, 3, 7, 8)
		wantClose(t, r, 3-first, api.OK)
		r.Settle()
		wantSeen(t, r, 6, 0, 8)
	}
}

// P10.4, P10.5: Window at the base, behind several Next, behind Settle with nobody, and with a snapshot that is not elder.
func TestWindow(t *testing.T) {
	r := newRegistry(t, 7, 5)
	wantSeen(t, r, 5, 0, 7)
	r.Settle()
	wantSeen(t, r, 5, 0, 7)
	wantNext(t, r, 8, 3, api.OK)
	wantNext(t, r, 8, 0, api.OK)
	wantNext(t, r, 9, 4, api.OK)
	wantSeen(t, r, 8, 7, 9)
	r.Settle()
	wantSeen(t, r, 8, 0, 9)
	wantNext(t, r, 6, 2, api.OK)
	wantSeen(t, r, 9, 2, 6)
	r.Open()
	wantSeen(t, r, 9, 2, 6)
	r.Settle()
	wantSeen(t, r, 9, 0, 6)
	wantNext(t, r, 5, 1, api.OK)
	wantSeen(t, r, 9, 1, 5, 6)
}

// P10.4: Settle behind which an elder snapshot is seen: what was changed up to its version counts no more, what was changed behind it does; a second Settle changes nothing.
func TestSettle(t *testing.T) {
	r := newRegistry(t, 7, 5)
	wantNext(t, r, 8, 100, api.OK)
	wantNext(t, r, 9, 10, api.OK)
	wantOpen(t, r, 1, 9, 7)
	wantNext(t, r, 10, 3, api.OK)
	wantNext(t, r, 11, 1, api.OK)
	wantSeen(t, r, 7, 114, 9, 11)
	for range 3 {
		r.Settle()
		wantSeen(t, r, 7, 4, 9, 11)
		wantTrunk(t, r, 11, 9)
		wantSnapshot(t, r, 1, 9, 7)
	}
	wantOpen(t, r, 2, 11, 9)
	wantNext(t, r, 12, 20, api.OK)
	r.Settle()
	wantSeen(t, r, 7, 24, 9, 11, 12)
	wantClose(t, r, 1, api.OK)
	wantSeen(t, r, 9, 24, 11, 12)
	for range 2 {
		r.Settle()
		wantSeen(t, r, 9, 20, 11, 12)
	}
	wantClose(t, r, 2, api.OK)
	wantSeen(t, r, 10, 20, 12)
	for range 2 {
		r.Settle()
		wantSeen(t, r, 10, 0, 12)
	}
}

// P10.4: what was changed up to the base counts no more, however much it was: also where all changes from New on are more than an int holds.
func TestWindowOfGreatChanges(t *testing.T) {
	r := newRegistry(t, 7, 0)
	for i := range 6 {
		wantNext(t, r, 8, math.MaxInt-i, api.OK)
		wantSeen(t, r, r.Horizon(), math.MaxInt-i, 8)
		r.Settle()
		wantSeen(t, r, r.Horizon(), 0, 8)
		wantNext(t, r, 8, 5, api.OK)
		wantSeen(t, r, r.Horizon(), 5, 8)
		r.Settle()
	}
}
