package inode_test

import (
	"math"
	"testing"

	"armoire/api"
	"armoire/inode"
)

// everyInode are such as may be, at each bound.
func everyInode() []api.Inode {
	l := []api.Inode{dir(0), dir(6), dir(api.MaxMode)}
	for _, mode := range []int{0, 6, 256, api.MaxMode} {
		for _, links := range []int{1, 2, api.MaxLinks} {
			for _, size := range []int{0, 1, 32, 33, 256, api.MaxSize} {
				l = append(l, file(mode, links, size))
			}
		}
	}
	return l
}

// P17.2: of an inode of the base: the Kind without a touch; all of it, with Mode, Links, Size read in that order; the Size, which is read.
func TestTellOfTheBase(t *testing.T) {
	for _, i := range everyInode() {
		r := rigWith(t, i)
		r.wantKind(7, i.Kind, api.OK)
		r.wantNothing()
		r.wantStat(7, i, api.OK)
		r.wantRead(of(7, api.Mode, api.Links, api.Size)...)
		r.wantNothing()

		r = rigWith(t, i)
		r.wantSize(7, i.Size, api.OK)
		r.wantRead(of(7, api.Size)...)
		r.wantNothing()
		// What is there already is there once, where it was.
		r.wantStat(7, i, api.OK)
		r.wantRead(of(7, api.Mode, api.Links)...)
		r.wantSize(7, i.Size, api.OK)
		r.wantStat(7, i, api.OK)
		r.wantKind(7, i.Kind, api.OK)
		r.wantNothing()
	}
}

// P17.2: of an inode that was made through the sight likewise.
func TestTellOfWhatWasMade(t *testing.T) {
	for _, kind := range []int{api.File, api.Dir} {
		want := api.Inode{Kind: kind, Mode: 6, Links: 1}
		r := rigOf(t, api.MaxPlaces, map[uint32]api.Inode{7: file(1, 2, 3)})
		ino := r.made(kind, 6)
		r.wantKind(ino, kind, api.OK)
		r.wantNothing()
		r.wantSize(ino, 0, api.OK)
		r.wantRead(of(ino, api.Size)...)
		r.wantStat(ino, want, api.OK)
		r.wantRead(of(ino, api.Mode, api.Links)...)
		r.wantNothing()
		// Another one's touches are others.
		r.wantStat(7, file(1, 2, 3), api.OK)
		r.wantRead(of(7, api.Mode, api.Links, api.Size)...)
		r.wantNothing()
	}
}

// P17.2: what was changed is told as it is then.
func TestTellOfWhatWasChanged(t *testing.T) {
	r := rigWith(t, file(6, 2, 40))
	r.put(fields(7, 7, 1, 3, 5))
	r.wantKind(7, api.File, api.OK)
	r.wantStat(7, file(1, 3, 5), api.OK)
	r.put(fields(7, api.SetSize, 0, 0, 512))
	r.wantSize(7, 512, api.OK)
	r.wantStat(7, file(1, 3, 512), api.OK)
	r.put(goneRecord(7), fresh(7, dir(4)))
	r.wantKind(7, api.Dir, api.OK)
	r.wantSize(7, 0, api.OK)
	r.wantStat(7, dir(4), api.OK)
	r.wantRead(of(7, api.Mode, api.Links, api.Size)...)
	r.wantNothing()
}

// P17.2 to P17.5: of the number 0, of one where nothing stands, of one whose record is gone: ErrStale ahead of all else, and nothing is touched.
func TestStale(t *testing.T) {
	r := rigOf(t, api.MaxPlaces, map[uint32]api.Inode{1: dir(0), 7: file(6, 1, 3), 8: dir(6)})
	// A chunk or an entry is no record.
	r.put(api.Change{Place: api.Place{Ino: 20, Part: api.Entry, Name: "a"}, To: 7}, goneChunk(21, 0))
	r.put(api.Change{Place: api.Place{Ino: 22, Part: api.Data}, Patch: api.Patch{Fresh: true}})
	r.put(goneRecord(7), goneRecord(8), goneRecord(30))
	for _, ino := range []uint32{0, 2, 6, 7, 8, 9, 20, 21, 22, 30, 100, 1 << 24, 1 << 31, math.MaxUint32} {
		r.wantAll(ino, api.ErrStale)
	}
	r.base.wild = true
	for _, ino := range []uint32{0, 2, 7, 100} {
		r.wantAll(ino, api.ErrStale)
	}
}

// P17.2 to P17.5: of one that was made through the sight, and removed; of one of the base that was.
func TestStaleBehindRemove(t *testing.T) {
	for _, kind := range []int{api.File, api.Dir} {
		r := rigWith(t, api.Inode{Kind: kind, Mode: 6, Links: 1})
		ino := r.made(kind, 6)
		for _, n := range []uint32{ino, 7} {
			r.wantRemove(n, api.OK)
			r.wantPuts(goneRecord(n))
			if kind == api.File {
				r.wantRead(of(n, api.Size)...)
			}
			r.wantWritten(of(n, api.All)...)
			r.wantAll(n, api.ErrStale)
		}
	}
}

// P17.2 to P17.5: the number 0 is ErrStale also where the base fails; it is not asked.
func TestStaleOfZeroAsksNobody(t *testing.T) {
	r := rigOf(t, 0, nil)
	r.base.fault = api.ErrDown
	r.wantAll(0, api.ErrStale)
	if len(r.base.gets) != 0 {
		t.Errorf("the base was asked for %q", r.base.gets)
	}
}

// P17.2 to P17.5: an error of the view at the record is handed on, ahead of all else; nothing is touched.
func TestErrorAtTheRecord(t *testing.T) {
	for _, fault := range faults {
		for _, wild := range []bool{false, true} {
			r := rigOf(t, api.MaxPlaces, map[uint32]api.Inode{7: file(6, 1, 3), 8: dir(6)})
			r.put(fields(7, api.SetMode, 5, 0, 0))
			r.base.fault, r.base.wild = fault, wild
			for _, ino := range []uint32{1, 7, 8, 9, math.MaxUint32} {
				r.wantAll(ino, fault)
			}
			// Where the view need not ask the base there is none.
			ino := r.made(api.File, 6)
			r.wantStat(ino, file(6, 1, 0), api.OK)
		}
	}
	r := rigOf(t, api.MaxPlaces, map[uint32]api.Inode{8: dir(6)})
	for _, value := range []string{"", "x", "\x03\x00\x06\x01\x00\x00", "\x01\x00\x06\x10\x00\x00", "\x02\x00\x06\x02\x00\x00", valueOf(dir(6)) + "\x00"} {
		r.base.values[key(7)] = value
		r.wantAll(7, api.ErrForm)
	}
	r.put(fields(9, api.SetSize, 0, 0, 5))
	r.wantAll(9, api.ErrState)
}

// P17.2: what was told is not changed by what is done later, nor the other way about.
func TestToldIsOnesOwn(t *testing.T) {
	r := rigWith(t, file(6, 2, 40))
	told, _ := inode.Stat(r.sight, 7)
	r.wantSet(7, api.OK, mode(1), size(3))
	if told != file(6, 2, 40) {
		t.Errorf("what was told has changed: %+v", told)
	}
	told.Mode, told.Size, told.Links = 99, 99, 9
	r.wantInode(7, file(1, 2, 3))
}

// R5: two sights do not see each other.
func TestSightsAreTheirOwn(t *testing.T) {
	a, b := rigWith(t, file(6, 1, 3)), rigWith(t, file(6, 1, 3))
	a.wantStat(7, file(6, 1, 3), api.OK)
	a.wantSet(7, api.OK, mode(1))
	a.wantRemove(7, api.OK)
	b.wantNothing()
	b.wantStat(7, file(6, 1, 3), api.OK)
}
