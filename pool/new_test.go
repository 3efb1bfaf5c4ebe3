package pool_test

import (
	"math"
	"testing"

	"armoire/api"
)

// P8.1
func TestNew(t *testing.T) {
	d, p := newPool(t, 64, 60)
	wantSpace(t, p, nil, nil, list(60, 61, 62, 63))
	p = mustNew(t, d, 63)
	wantSpace(t, p, nil, nil, list(63))
	p = mustNew(t, d, 63, 63)
	wantSpace(t, p, list(63), nil, nil)
	p = mustNew(t, d, 1)
	wantSpace(t, p, nil, nil, span(1, 64))
	p = mustNew(t, d, 1, 63, 1, 30)
	wantSpace(t, p, list(1, 30, 63), nil, append(span(2, 30), span(31, 63)...))
	p = mustNew(t, d, 1, span(1, 64)...)
	wantSpace(t, p, span(1, 64), nil, nil)
	_, p = newPool(t, api.MaxBlocks, api.MaxBlocks-2, api.MaxBlocks-1)
	wantSpace(t, p, list(api.MaxBlocks-1), nil, list(api.MaxBlocks-2))
	_, p = newPool(t, 2, 1)
	wantSpace(t, p, nil, nil, list(1))
	if d.Writes() != 0 {
		t.Errorf("New: %d writes were done", d.Writes())
	}
}

// P8.1
func TestNewRefuses(t *testing.T) {
	wantNewErr(t, nil, 1)
	wantNewErr(t, nil, 0, 5)
	d := newDisk(t, 64)
	for _, from := range []int{math.MinInt, -64, -1, 0, 64, 65, 1024, math.MaxInt} {
		wantNewErr(t, d, from)
		wantNewErr(t, d, from, 60)
		wantNewErr(t, d, from, from)
	}
	for _, taken := range [][]int{{59}, {64}, {0}, {-1}, {60, 60}, {63, 61, 63}, {61, 59}, {61, 64}, {60, 60, 64}, {math.MinInt}, {math.MaxInt}, {1 << 32}, {1<<32 + 60}} {
		wantNewErr(t, d, 60, taken...)
	}
	wantNewErr(t, d, 1, append(span(1, 64), 1)...)
	wantNewErr(t, d, 1, append(span(1, 64), 0)...)
	wantNewErr(t, newDisk(t, 1), 1)
}

// P8.1: nothing is fresh, whatever is taken; and nothing is asked of the disk, be its power off.
func TestNewHasNothingFresh(t *testing.T) {
	d := newDisk(t, 64)
	d.Cut("")
	p := mustNew(t, d, 60, 61)
	wantDrop(t, p, 61, api.OK)
	wantSpace(t, p, nil, list(61), list(60, 62, 63))
	p.Undo()
	wantSpace(t, p, list(61), nil, list(60, 62, 63))
}

// R4: taken is neither changed nor kept.
func TestNewAndMemory(t *testing.T) {
	d := newDisk(t, 64)
	room := []int{63, 61, 62}
	p := mustNew(t, d, 60, room[:2]...)
	if room[0] != 63 || room[1] != 61 || room[2] != 62 {
		t.Errorf("taken was changed: %v", room)
	}
	room[0], room[1] = 60, 60
	wantSpace(t, p, list(61, 63), nil, list(60, 62))
	p.Undo()
	wantSpace(t, p, list(61, 63), nil, list(60, 62))
}
