package pool_test

import (
	"slices"
	"testing"

	"armoire/api"
)

// P8.4: with nothing waiting, whatever is to be kept.
func TestSweepOfNothing(t *testing.T) {
	_, p := newPool(t, 64, 60, 61)
	wantWrite(t, p, leaf("a"), 60)
	wantSweep(t, p, 0)
	wantSweep(t, p, 0, 60, 61, 62, 63)
	wantSweep(t, p, 0, farIDs...)
	wantSpace(t, p, list(60, 61), nil, list(62, 63))
}

// P8.4: keep of all that wait, of some, of none; of blocks that are taken, free, none of the pool's; of one twice.
func TestSweep(t *testing.T) {
	for _, x := range []struct {
		keep    []uint32
		waiting []int
	}{
		{nil, nil},
		{[]uint32{}, nil},
		{[]uint32{60, 61, 63}, list(60, 61, 63)},
		{[]uint32{63, 61, 60}, list(60, 61, 63)},
		{[]uint32{61}, list(61)},
		{[]uint32{61, 61, 61}, list(61)},
		{[]uint32{60, 63, 60, 63}, list(60, 63)},
		{[]uint32{62, 64, 65}, nil},
		{[]uint32{66, 67, 60}, list(60)},
		{slices.Concat(farIDs, []uint32{59, 68, 63}), list(63)},
		{farIDs, nil},
		{[]uint32{1<<32 - 4, 60 + 1<<16}, nil},
	} {
		p := settled(t)
		wantDrop(t, p, 60, api.OK)
		wantDrop(t, p, 61, api.OK)
		room := append(slices.Clone(x.keep), 60)
		keep := slices.Clone(room)
		wantSweep(t, p, 3-len(x.waiting), room[:len(x.keep)]...)
		if !slices.Equal(room, keep) {
			t.Errorf("keep was changed: %v", room)
		}
		isFree := func(i int) bool { return i != 62 && i != 64 && i != 65 && !slices.Contains(x.waiting, i) }
		free := slices.DeleteFunc(span(60, 68), func(i int) bool { return !isFree(i) })
		wantSpace(t, p, list(62, 64, 65), x.waiting, free)
		wantSweep(t, p, 0, x.keep...)
		for _, i := range x.waiting {
			wantRead(t, p, uint32(i), numbered(i-60))
		}
		wantSweep(t, p, len(x.waiting))
		wantSpace(t, p, list(62, 64, 65), nil, list(60, 61, 63, 66, 67))
	}
}

// P8.4, P8.5: Sweep goes before Undo only as far as it did sweep.
func TestSweepOfSomeThenUndo(t *testing.T) {
	p := settled(t)
	wantDrop(t, p, 60, api.OK)
	wantDrop(t, p, 61, api.OK)
	wantDrop(t, p, 62, api.OK)
	wantSweep(t, p, 1, 60, 61, 63)
	wantSweep(t, p, 1, 60, 63)
	p.Undo()
	wantSpace(t, p, list(60), list(63), list(61, 62, 64, 65, 66, 67))
	wantSweep(t, p, 1)
	p.Undo()
	wantSpace(t, p, list(60), nil, list(61, 62, 63, 64, 65, 66, 67))
	wantPages(t, p, 60)
}

// R4: what Space answers is new, each list of it.
func TestSpaceAndMemory(t *testing.T) {
	p := settled(t)
	for range 2 {
		a, b, c := p.Space()
		for _, l := range [][]int{append(a, 1, 2, 3), append(b, 1, 2, 3), append(c, 1, 2, 3), a, b, c} {
			for i := range l {
				l[i] = 99
			}
		}
		wantSpace(t, p, list(60, 61, 62, 64, 65), list(63), list(66, 67))
	}
	p.Undo()
	wantSpace(t, p, list(60, 61, 62), list(63), list(64, 65, 66, 67))
}
