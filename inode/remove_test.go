package inode_test

import (
	"testing"

	"armoire/api"
	"armoire/inode"
)

// P17.5: a file of each Size: its Size is read; its record is gone, and then each chunk up to its last byte, in order, which all do not stand there; All is written.
func TestRemoveOfEachSize(t *testing.T) {
	for n := range api.MaxSize + 1 {
		chunks := 0
		for chunks*32 < n {
			chunks++
		}
		r := rigOf(t, 1+chunks, map[uint32]api.Inode{7: file(6, 3, n)})
		r.wantRemove(7, api.OK)
		r.wantPuts(goneAll(7, chunks)...)
		r.wantRead(of(7, api.Size)...)
		r.wantWritten(of(7, api.All)...)
		r.wantAll(7, api.ErrStale)
		r.wantPutsBackwards()
	}
}

// P17.5: of the bounds of a chunk, said by hand.
func TestRemoveAtBounds(t *testing.T) {
	for _, x := range []struct{ size, chunks int }{{0, 0}, {1, 1}, {31, 1}, {32, 1}, {33, 2}, {64, 2}, {65, 3}, {480, 15}, {481, 16}, {511, 16}, {512, 16}} {
		r := rigWith(t, file(6, 1, x.size))
		r.wantRemove(7, api.OK)
		if got := r.delta.Count(); got != 1+x.chunks {
			t.Errorf("of %d bytes: got %d places, want %d", x.size, got, 1+x.chunks)
		}
	}
}

// P17.5: a directory: its Size is not read; its record alone is gone: its entries are not.
func TestRemoveOfADirectory(t *testing.T) {
	r := rigWith(t, dir(6))
	entry := api.Place{Ino: 7, Part: api.Entry, Name: "a"}
	r.put(api.Change{Place: entry, To: 9})
	r.wantRemove(7, api.OK)
	r.wantPuts(goneRecord(7))
	r.wantWritten(of(7, api.All)...)
	r.wantAll(7, api.ErrStale)
	if x, is, err := r.sight.V.Get(entry); x.To != 9 || !is || err != api.OK {
		t.Errorf("the entry: got %+v, %v, %d", x, is, err)
	}
}

// P17.5: a directory to which the delta alone gave a Size has no chunks all the same.
func TestRemoveOfADirectoryWithASize(t *testing.T) {
	r := rigWith(t, dir(6))
	r.put(fields(7, api.SetSize, 0, 0, 100))
	r.wantRemove(7, api.OK)
	r.wantPuts(goneRecord(7))
	r.wantWritten(of(7, api.All)...)
	r.wantNothing()
}

// P17.5: the Root is no other directory.
func TestRemoveOfTheRoot(t *testing.T) {
	r := rigOf(t, api.MaxPlaces, map[uint32]api.Inode{api.Root: dir(0)})
	r.wantRemove(api.Root, api.OK)
	r.wantPuts(goneRecord(api.Root))
	r.wantWritten(of(api.Root, api.All)...)
	r.wantNothing()
}

// P17.5: of a file that was made through the sight: its Size is what it was set to; its chunks, of which one stands there, are gone.
func TestRemoveOfWhatWasMade(t *testing.T) {
	r := rigOf(t, api.MaxPlaces, nil)
	ino := r.made(api.File, 6)
	r.wantSet(ino, api.OK, size(70))
	r.wantPuts(fields(ino, api.SetSize, 0, 0, 70))
	r.wantWritten(of(ino, api.Size)...)
	chunk := api.Place{Ino: ino, Part: api.Data, Chunk: 1}
	r.put(api.Change{Place: chunk, Patch: api.Patch{Mask: 1, Bytes: [api.Chunk]byte{'x'}}})
	r.wantRemove(ino, api.OK)
	r.wantPuts(goneAll(ino, 3)...)
	r.wantRead(of(ino, api.Size)...)
	r.wantWritten(of(ino, api.All)...)
	if _, is, err := r.sight.V.Get(chunk); is || err != api.OK {
		t.Errorf("the chunk: got %v, %d", is, err)
	}
	r.wantAll(ino, api.ErrStale)
	r.wantPutsBackwards()
}

// P17.5: chunks of the base are gone; those behind the last byte, another inode's and the neighbours' records stay.
func TestRemoveOfChunks(t *testing.T) {
	r := rigOf(t, api.MaxPlaces, map[uint32]api.Inode{6: file(1, 1, 99), 7: file(6, 1, 33), 8: dir(2)})
	bytes := "0123456789abcdef0123456789abcdef"
	for _, ino := range []string{"\x06", "\x07", "\x08"} {
		for _, n := range []string{"\x00", "\x01", "\x02", "\x0f"} {
			r.base.values["\x00\x00\x00"+ino+"\x03\x00\x00\x00"+n+"\x00\x00\x00\x00\x00"] = bytes
		}
	}
	r.wantRemove(7, api.OK)
	for ino := uint32(6); ino <= 8; ino++ {
		for _, n := range []uint32{0, 1, 2, 15} {
			x, is, err := r.sight.V.Get(api.Place{Ino: ino, Part: api.Data, Chunk: n})
			if gone := ino == 7 && n < 2; is == gone || err != api.OK || is && string(x.Bytes[:]) != bytes {
				t.Errorf("the chunk %d of %d: got %v, %d", n, ino, is, err)
			}
		}
	}
	r.wantInode(6, file(1, 1, 99))
	r.wantInode(8, dir(2))
	r.wantPuts(goneAll(7, 2)...)
}

// P17.5: the Size is what the view tells: behind one that was set, and not the base's.
func TestRemoveBehindSet(t *testing.T) {
	r := rigWith(t, file(6, 1, 500))
	r.wantSet(7, api.OK, size(5))
	r.wantRemove(7, api.OK)
	r.wantPuts(append([]api.Change{fields(7, api.SetSize, 0, 0, 5)}, goneAll(7, 1)...)...)
	r.wantRead(of(7, api.Size)...)
	r.wantWritten(of(7, api.Size, api.All)...)
}

// P17.5: the error of each Put in turn is handed on: what was put in till then is in, the Size is read, nothing is written.
func TestRemoveWithoutRoom(t *testing.T) {
	for most := range 17 {
		r := rigOf(t, most, map[uint32]api.Inode{7: file(6, 1, api.MaxSize)})
		r.wantRemove(7, api.ErrTooBig)
		r.wantPuts(goneAll(7, 16)[:most]...)
		r.wantRead(of(7, api.Size)...)
		r.wantNothing()
		if most > 0 {
			r.wantAll(7, api.ErrStale)
		} else {
			r.wantInode(7, file(6, 1, api.MaxSize))
		}
		r.wantPutsBackwards()
	}
	r := rigOf(t, 0, map[uint32]api.Inode{7: dir(6)})
	r.wantRemove(7, api.ErrTooBig)
	r.wantNothing()
	r.wantInode(7, dir(6))
}

// P17.5: places that have a change have room: the first one that has none is where it ends.
func TestRemoveWithSomeRoom(t *testing.T) {
	r := rigOf(t, 3, map[uint32]api.Inode{7: file(6, 1, 100)})
	r.put(goneChunk(7, 0), goneChunk(7, 3))
	r.wantRemove(7, api.ErrTooBig)
	r.wantPuts(goneRecord(7), goneChunk(7, 0))
	r.wantRead(of(7, api.Size)...)
	r.wantNothing()
	r.wantPutsBackwards()
}

// P17.1 to P17.5: what was removed may be made anew, with its number, and is another one; its chunks stay gone.
func TestMakeBehindRemove(t *testing.T) {
	r := rigOf(t, api.MaxPlaces, map[uint32]api.Inode{100: file(6, 2, 40)})
	r.wantRemove(100, api.OK)
	r.wantPuts(goneAll(100, 2)...)
	r.wantRead(of(100, api.Size)...)
	r.wantWritten(of(100, api.All)...)
	r.wantMake(api.Dir, 3, 100, api.OK)
	r.wantPuts(fresh(100, dir(3)))
	r.wantAllots(1)
	r.wantKind(100, api.Dir, api.OK)
	r.wantNothing()
	if k, err := inode.Kind(r.sight, 100); k != api.Dir || err != api.OK {
		t.Errorf("Kind: got %d, %d", k, err)
	}
	r.wantPutsBackwards()
}
