package inode_test

import (
	"math"
	"testing"

	"armoire/api"
)

// P17.4: from each number of links, by each that leads to one of 1 to MaxLinks: its Links is read, and, if it changes, set and written.
func TestLink(t *testing.T) {
	for from := 1; from <= api.MaxLinks; from++ {
		for to := 1; to <= api.MaxLinks; to++ {
			r := rigWith(t, file(6, from, 40))
			r.wantLink(7, to-from, to, api.OK)
			r.wantRead(of(7, api.Links)...)
			if to != from {
				r.wantPuts(fields(7, api.SetLinks, 0, to, 0))
				r.wantWritten(of(7, api.Links)...)
			}
			r.wantInode(7, file(6, to, 40))
			r.wantNothing()
		}
	}
}

// P17.4: by 0: how many it has; nothing is changed or written, and no room is wanted.
func TestLinkBy0(t *testing.T) {
	for _, links := range []int{1, 2, api.MaxLinks} {
		r := rigOf(t, 0, map[uint32]api.Inode{7: file(6, links, 40)})
		r.wantLink(7, 0, links, api.OK)
		r.wantRead(of(7, api.Links)...)
		r.wantNothing()
	}
}

// P17.4: of one that was made through the sight, up to MaxLinks one by one, and down again till it is gone.
func TestLinkUpAndDown(t *testing.T) {
	r := rigOf(t, 1, nil)
	ino := r.made(api.File, 6)
	for n := 2; n <= api.MaxLinks; n++ {
		r.wantLink(ino, 1, n, api.OK)
		r.wantPuts(fields(ino, api.SetLinks, 0, n, 0))
	}
	r.wantRead(of(ino, api.Links)...)
	r.wantWritten(of(ino, api.Links)...)
	r.wantLink(ino, 1, 0, api.ErrLinks)
	r.wantNothing()
	for n := api.MaxLinks - 1; n >= 1; n-- {
		r.wantLink(ino, -1, n, api.OK)
		r.wantPuts(fields(ino, api.SetLinks, 0, n, 0))
	}
	r.wantLink(ino, -2, 0, api.ErrLinks)
	r.wantNothing()
	r.wantLink(ino, -1, 0, api.OK)
	r.wantPuts(goneRecord(ino))
	r.wantRead(of(ino, api.Size)...)
	r.wantWritten(of(ino, api.All)...)
	r.wantAll(ino, api.ErrStale)
}

// P17.4: past either bound, by as much as an int holds: ErrLinks; the Links that it has read is read, nothing else happens.
func TestLinkPastBounds(t *testing.T) {
	for links := 1; links <= api.MaxLinks; links++ {
		bys := []int{-links - 1, api.MaxLinks + 1 - links, -16, 16, math.MinInt, math.MinInt + 1, math.MinInt + links, math.MaxInt, math.MaxInt - links, math.MaxInt - links + 1, math.MinInt64 + 16, 1 << 32, -1 << 32, math.MaxInt32, math.MinInt32}
		for _, by := range bys {
			for _, most := range []int{0, 64} {
				r := rigOf(t, most, map[uint32]api.Inode{7: file(6, links, 40)})
				r.wantLink(7, by, 0, api.ErrLinks)
				r.wantRead(of(7, api.Links)...)
				r.wantInode(7, file(6, links, 40))
				r.wantNothing()
			}
		}
	}
}

// P17.4: of a directory: ErrIsDir, whatever by is; its Links is not read.
func TestLinkOfADirectory(t *testing.T) {
	r := rigWith(t, dir(6))
	made := r.made(api.Dir, 6)
	for _, ino := range []uint32{7, made} {
		for _, by := range []int{0, 1, -1, 14, 15, -2, 16, -16, math.MaxInt, math.MinInt} {
			r.wantLink(ino, by, 0, api.ErrIsDir)
		}
	}
	r.wantNothing()
	r.wantInode(7, dir(6))
}

// P17.4, P17.5: a file whose last link is gone is removed with its chunks: Links, then Size are read; All is written, Links is not.
func TestLinkTo0(t *testing.T) {
	for links := 1; links <= api.MaxLinks; links++ {
		for _, x := range []struct{ size, chunks int }{{0, 0}, {1, 1}, {32, 1}, {33, 2}, {api.MaxSize, 16}} {
			r := rigWith(t, file(6, links, x.size))
			r.wantLink(7, -links, 0, api.OK)
			r.wantRead(of(7, api.Links, api.Size)...)
			r.wantPuts(goneAll(7, x.chunks)...)
			r.wantWritten(of(7, api.All)...)
			r.wantAll(7, api.ErrStale)
			r.wantPutsBackwards()
		}
	}
}

// P17.4: Put's error is handed on: the Links was read, nothing is written.
func TestLinkWithoutRoom(t *testing.T) {
	for _, by := range []int{1, 13, -1} {
		r := rigOf(t, 0, map[uint32]api.Inode{7: file(6, 2, 40)})
		r.wantLink(7, by, 0, api.ErrTooBig)
		r.wantRead(of(7, api.Links)...)
		r.wantInode(7, file(6, 2, 40))
		r.wantNothing()
	}
	// To 0: what was put in and touched till then is so.
	for most := range 3 {
		r := rigOf(t, most, map[uint32]api.Inode{7: file(6, 2, 40)})
		r.wantLink(7, -2, 0, api.ErrTooBig)
		r.wantRead(of(7, api.Links, api.Size)...)
		r.wantPuts(goneAll(7, 2)[:most]...)
		r.wantNothing()
		r.wantPutsBackwards()
	}
}

// P17.4: a base that fails in the midst of it, when the record is looked at once more: what was read till then is so.
func TestLinkWhereTheBaseFailsLater(t *testing.T) {
	for _, fault := range faults {
		for _, by := range []int{1, -1, -2} {
			r := rigWith(t, file(6, 2, 40))
			r.base.fault, r.base.spared = fault, 1
			r.wantLink(7, by, 0, fault)
			r.wantRead(of(7, api.Links)...)
			r.wantNothing()
		}
		r := rigWith(t, file(6, 2, 40))
		r.base.fault, r.base.spared = fault, 1
		r.wantLink(7, 0, 2, api.OK)
	}
}
