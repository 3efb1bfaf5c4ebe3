package inode_test

import (
	"math"
	"testing"

	"armoire/api"
)

// The document's example.
func TestExample(t *testing.T) {
	r := rigOf(t, api.MaxPlaces, nil)
	r.number = 1
	r.wantMake(api.File, 6, 2, api.OK)
	r.wantLink(2, 1, 2, api.OK)
	r.wantLink(2, -2, 0, api.OK)
	r.wantKind(2, 0, api.ErrStale)
}

// P17.1: a file and a directory of each mode, with one Link and no bytes; the number is Alloc's, asked for once; no touch.
func TestMake(t *testing.T) {
	for _, kind := range []int{api.File, api.Dir} {
		for mode := range api.MaxMode + 1 {
			r := rigOf(t, 2, nil)
			want := api.Inode{Kind: kind, Mode: mode, Links: 1}
			r.wantMake(kind, mode, 100, api.OK)
			r.wantPuts(fresh(100, want))
			r.wantAllots(1)
			r.wantInode(100, want)
			r.wantNothing()
		}
	}
}

// P17.1: what may not be is refused: no number is asked for, nothing is touched or put in; also where there were no room.
func TestMakeOfWhatMayNotBe(t *testing.T) {
	for _, most := range []int{0, 64} {
		r := rigOf(t, most, nil)
		for _, kind := range append([]int{api.NoKind, 3, 4, 256 + api.File, 1<<32 + api.Dir}, far...) {
			for _, mode := range []int{0, 6, api.MaxMode, api.MaxMode + 1, -1} {
				r.wantMake(kind, mode, 0, api.ErrArg)
			}
		}
		for _, kind := range []int{api.File, api.Dir} {
			for _, mode := range append([]int{api.MaxMode + 1, api.MaxMode + 2, 1024, math.MinInt + 6}, far...) {
				r.wantMake(kind, mode, 0, api.ErrArg)
			}
		}
		r.wantNothing()
		if len(r.base.gets) != 0 {
			t.Errorf("the base was asked for %q", r.base.gets)
		}
	}
}

// P17.1: numbers are Alloc's, whichever they are.
func TestMakeOfManyNumbers(t *testing.T) {
	r := rigOf(t, api.MaxPlaces, nil)
	for _, ino := range []uint32{1, 2, 255, 256, 1 << 24, 1 << 31, math.MaxUint32} {
		r.number = ino - 1
		r.wantMake(api.Dir, 5, ino, api.OK)
		r.wantPuts(fresh(ino, dir(5)))
		r.wantAllots(1)
		r.wantStat(ino, dir(5), api.OK)
		r.wantRead(of(ino, api.Mode, api.Links, api.Size)...)
		r.wantNothing()
	}
}

// P17.1: where something stands already, in the base or by a change, it is made anew; what stands there is not asked for.
func TestMakeUponSomething(t *testing.T) {
	r := rigOf(t, api.MaxPlaces, map[uint32]api.Inode{100: file(6, 3, 99), 101: dir(5), 102: file(1, 2, 3)})
	r.put(goneRecord(101), fields(102, api.SetSize, 0, 0, 77))
	r.base.fault = api.ErrDown
	for i, want := range []api.Inode{dir(1), file(2, 1, 0), file(3, 1, 0)} {
		ino := uint32(100 + i)
		r.wantMake(want.Kind, want.Mode, ino, api.OK)
		r.wantPuts(fresh(ino, want))
		r.wantAllots(1)
		r.wantInode(ino, want)
	}
	r.wantNothing()
}

// P17.1: the number 0 is none that a place may have: the view's error is handed on; the number is allotted.
func TestMakeWhereAllocTells0(t *testing.T) {
	r := rigOf(t, api.MaxPlaces, nil)
	r.number = math.MaxUint32
	r.wantMake(api.File, 6, 0, api.ErrArg)
	r.wantPuts()
	r.wantRead()
	r.wantWritten()
	r.wantAllots(1)
	r.wantMake(api.File, 6, 1, api.OK)
}

// P17.1: an error of Put is handed on; the number is allotted all the same, so the next one is another.
func TestMakeWithoutRoom(t *testing.T) {
	r := rigOf(t, 1, nil)
	r.made(api.File, 6)
	for range 3 {
		r.wantMake(api.Dir, 6, 0, api.ErrTooBig)
		r.wantPuts()
		r.wantAllots(1)
	}
	r.delta.Undo(0)
	r.changes = nil
	r.wantMake(api.Dir, 6, 104, api.OK)
	r.wantPuts(fresh(104, dir(6)))
	r.wantAllots(1)
	r.wantNothing()
	// A place that has a change takes no more room.
	r.number = 103
	r.wantMake(api.File, 1, 104, api.OK)
	r.wantPuts(fresh(104, file(1, 1, 0)))
}
