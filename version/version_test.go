package version_test

import (
	"math"
	"testing"

	"armoire/api"
)

// The chapter's example, call by call.
func TestExample(t *testing.T) {
	r := newRegistry(t, 7, 0)
	wantOpen(t, r, 1, 7, 0)
	wantNext(t, r, 9, 3, api.OK)
	wantOpen(t, r, 2, 9, 1)
	wantSeen(t, r, 0, 3, 7, 9)
	r.Settle()
	wantSeen(t, r, 0, 3, 7, 9)
	wantClose(t, r, 1, api.OK)
	r.Settle()
	wantSeen(t, r, 1, 0, 9)
}

// P10.1: New at the ends of both numbers: the trunk is that version, nobody sees anything, and the base is that version.
func TestNew(t *testing.T) {
	for _, root := range []uint32{0, 1, 66, 1 << 31, lastRoot} {
		for _, at := range []uint64{0, 1, 1 << 32, 1 << 63, lastVersion - 1, lastVersion} {
			r := newRegistry(t, root, at)
			wantSeen(t, r, at, 0, root)
			for _, id := range []int{-1, 0, 1, 2} {
				wantNone(t, r, id)
			}
			wantNext(t, r, 5, 2, api.OK)
			wantTrunk(t, r, 5, at+1)
			wantSeen(t, r, at+1, 2, 5)
		}
	}
}

// P10.1, R5: two registries are two, also of the same numbers.
func TestTwoRegistries(t *testing.T) {
	r, other := newRegistry(t, 7, 3), newRegistry(t, 7, 3)
	wantOpen(t, r, 1, 7, 3)
	wantOpen(t, r, 2, 7, 3)
	wantNext(t, r, 8, 4, api.OK)
	wantTrunk(t, other, 7, 3)
	wantSeen(t, other, 3, 0, 7)
	wantNone(t, other, 1)
	wantOpen(t, other, 1, 7, 3)
	wantNext(t, other, 6, 1, api.OK)
	other.Settle()
	wantClose(t, other, 1, api.OK)
	wantSnapshot(t, r, 1, 7, 3)
	wantTrunk(t, r, 8, 4)
	wantSeen(t, r, 3, 4, 7, 8)
}

// P10.2: Open ahead of any Next, several of one version, behind several Next; each sees what the trunk was then.
func TestOpen(t *testing.T) {
	r := newRegistry(t, 70, 10)
	wantOpen(t, r, 1, 70, 10)
	wantOpen(t, r, 2, 70, 10)
	wantOpen(t, r, 3, 70, 10)
	wantNext(t, r, 80, 1, api.OK)
	wantNext(t, r, 0, 1, api.OK)
	wantNext(t, r, lastRoot, 1, api.OK)
	wantOpen(t, r, 4, lastRoot, 13)
	wantOpen(t, r, 5, lastRoot, 13)
	wantNext(t, r, 60, 1, api.OK)
	wantOpen(t, r, 6, 60, 14)
	for id := 1; id <= 3; id++ {
		wantSnapshot(t, r, id, 70, 10)
	}
	wantSnapshot(t, r, 4, lastRoot, 13)
	wantSnapshot(t, r, 5, lastRoot, 13)
	wantSnapshot(t, r, 6, 60, 14)
	wantTrunk(t, r, 60, 14)
	wantSeen(t, r, 10, 4, 60, 70, lastRoot)
}

// P10.2: the numbers go on behind Close, of the last one, of an elder one, of all.
func TestNumbersGoOn(t *testing.T) {
	r := newRegistry(t, 7, 0)
	wantOpen(t, r, 1, 7, 0)
	wantClose(t, r, 1, api.OK)
	wantOpen(t, r, 2, 7, 0)
	wantOpen(t, r, 3, 7, 0)
	wantClose(t, r, 2, api.OK)
	wantOpen(t, r, 4, 7, 0)
	wantClose(t, r, 4, api.OK)
	wantClose(t, r, 3, api.OK)
	r.Settle()
	wantNext(t, r, 8, 1, api.OK)
	wantOpen(t, r, 5, 8, 1)
	for id := 1; id <= 4; id++ {
		wantNone(t, r, id)
	}
	wantSnapshot(t, r, 5, 8, 1)
}

// P10.2, R2: Snapshot and Close of numbers that are not open: closed, never told, 0, below 0, far away; nothing changes.
func TestNoSnapshot(t *testing.T) {
	r := newRegistry(t, 7, 4)
	for range 5 {
		r.Open()
	}
	wantNext(t, r, 8, 3, api.OK)
	wantClose(t, r, 1, api.OK)
	wantClose(t, r, 3, api.OK)
	wantClose(t, r, 5, api.OK)
	for _, id := range []int{1, 3, 5, 6, 7, 0, -1, -2, -4, 1<<32 + 2, 1<<32 + 4, math.MaxInt, math.MinInt, math.MinInt + 2} {
		wantNone(t, r, id)
		wantSnapshot(t, r, 2, 7, 4)
		wantSnapshot(t, r, 4, 7, 4)
		wantTrunk(t, r, 8, 5)
		wantSeen(t, r, 4, 3, 7, 8)
	}
	wantOpen(t, r, 6, 8, 5)
}

// P10.2: Close closes that one alone, though others see the same version.
func TestCloseOne(t *testing.T) {
	for closed := 1; closed <= 3; closed++ {
		r := newRegistry(t, 7, 4)
		for range 3 {
			r.Open()
		}
		wantNext(t, r, 8, 3, api.OK)
		wantClose(t, r, closed, api.OK)
		for id := 1; id <= 3; id++ {
			if id == closed {
				wantNone(t, r, id)
			} else {
				wantSnapshot(t, r, id, 7, 4)
			}
		}
		wantSeen(t, r, 4, 3, 7, 8)
	}
}

// P10.3: Next with no place and with some, with a root that was there before, that is there, and at the ends.
func TestNext(t *testing.T) {
	r := newRegistry(t, 7, 20)
	window := 0
	for i, x := range []struct {
		root   uint32
		places int
	}{{8, 1}, {8, 0}, {7, 64}, {0, 0}, {lastRoot, 2}, {7, 1 << 20}, {7, 3}} {
		wantNext(t, r, x.root, x.places, api.OK)
		window += x.places
		at := uint64(21 + i)
		wantTrunk(t, r, x.root, at)
		wantSeen(t, r, at, window, x.root)
	}
}

// P10.3, R2: places below 0: ErrArg, and nothing changes.
func TestNextRefuses(t *testing.T) {
	r := newRegistry(t, 7, 20)
	wantOpen(t, r, 1, 7, 20)
	wantNext(t, r, 8, 5, api.OK)
	for _, places := range []int{-1, -2, -5, -64, -1 << 32, math.MinInt + 1, math.MinInt} {
		wantNext(t, r, 9, places, api.ErrArg)
		wantTrunk(t, r, 8, 21)
		wantSnapshot(t, r, 1, 7, 20)
		wantSeen(t, r, 20, 5, 7, 8)
	}
	wantNext(t, r, 9, 0, api.OK)
	wantTrunk(t, r, 9, 22)
}

// P10.3, R8: behind the greatest version comes 0, which is not the elder one.
func TestVersionsBeginAnew(t *testing.T) {
	r := newRegistry(t, 7, lastVersion-1)
	wantOpen(t, r, 1, 7, lastVersion-1)
	wantNext(t, r, 6, 10, api.OK)
	wantOpen(t, r, 2, 6, lastVersion)
	wantNext(t, r, 5, 20, api.OK)
	wantTrunk(t, r, 5, 0)
	wantOpen(t, r, 3, 5, 0)
	wantNext(t, r, 4, 40, api.OK)
	wantSeen(t, r, lastVersion-1, 70, 4, 5, 6, 7)
	wantClose(t, r, 1, api.OK)
	wantSeen(t, r, lastVersion, 70, 4, 5, 6)
	r.Settle()
	wantSeen(t, r, lastVersion, 60, 4, 5, 6)
	wantClose(t, r, 2, api.OK)
	wantSeen(t, r, 0, 60, 4, 5)
	r.Settle()
	wantSeen(t, r, 0, 40, 4, 5)
	wantClose(t, r, 3, api.OK)
	r.Settle()
	wantSeen(t, r, 1, 0, 4)
}
