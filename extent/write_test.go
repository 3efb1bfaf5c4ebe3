package extent_test

import (
	"math"
	"strings"
	"testing"

	"armoire/api"
)

// laidBy are the patches of data from off on, by the document's words: byte by byte, each into its chunk.
func laidBy(off int, data string) []api.Change {
	var l []api.Change
	for i := range len(data) {
		n, at := (off+i)/32, (off+i)%32
		if len(l) == 0 || l[len(l)-1].Place != chunk(n) {
			l = append(l, api.Change{Place: chunk(n)})
		}
		c := &l[len(l)-1]
		c.Patch.Mask |= 1 << at
		c.Patch.Bytes[at] = data[i]
	}
	return l
}

// behind is what becomes of a file's bytes by data that is written from off on.
func behind(was string, off int, data string) string {
	b := []byte(was + noughts(max(0, off+len(data)-len(was))))
	copy(b[off:], data)
	return string(b)
}

// P18.2: into files of each Size at a bound, from each byte at a bound on, by some lengths: the Size is read, each chunk that is met gets a patch, the bytes are written, and, if they end behind Size, that is set and written.
func TestWrite(t *testing.T) {
	for _, n := range []int{0, 1, 31, 32, 33, 64, 100, 511, 512} {
		was := textOf(n)
		for _, off := range bounds(511) {
			for _, length := range []int{1, 2, 31, 32, 33, 63, 64} {
				if off+length > 512 {
					continue
				}
				data := strings.ToUpper(strings.Repeat("written-", 8))[:length]
				r := rigWith(t, was)
				r.wantWriteOf(7, off, data, api.OK)
				r.wantRead(size())
				changes, touches := laidBy(off, data), []api.Touch{bytes(off, off+length)}
				if off+length > n {
					changes, touches = append(changes, sized(off+length)), append(touches, size())
				}
				r.wantPuts(changes...)
				r.wantWritten(touches...)
				r.wantAsked()
				r.wantFile(behind(was, off, data))
				r.wantNothing()
				r.wantPutsBackwards()
			}
			if t.Failed() {
				t.FailNow()
			}
		}
	}
}

// P18.2: of the bounds of chunks, said by hand.
func TestWriteAtBounds(t *testing.T) {
	data := textOf(64)
	for _, x := range []struct {
		off, n int
		want   []api.Change
	}{
		{0, 1, []api.Change{patched(0, 0, data[:1])}},
		{31, 1, []api.Change{patched(0, 31, data[:1])}},
		{31, 2, []api.Change{patched(0, 31, data[:1]), patched(1, 0, data[1:2])}},
		{32, 32, []api.Change{patched(1, 0, data[:32])}},
		{30, 64, []api.Change{patched(0, 30, data[:2]), patched(1, 0, data[2:34]), patched(2, 0, data[34:64])}},
		{448, 64, []api.Change{patched(14, 0, data[:32]), patched(15, 0, data[32:64])}},
		{511, 1, []api.Change{patched(15, 31, data[:1])}},
	} {
		r := rigWith(t, textOf(512))
		r.wantWriteOf(7, x.off, data[:x.n], api.OK)
		r.wantPuts(x.want...)
		r.wantWritten(bytes(x.off, x.off+x.n))
		r.wantPutsBackwards()
	}
}

// P18.2: noughts are written as other bytes are.
func TestWriteOfNoughts(t *testing.T) {
	r := rigWith(t, textOf(100))
	r.wantWriteOf(7, 20, noughts(30), api.OK)
	r.wantPuts(patched(0, 20, noughts(12)), patched(1, 0, noughts(18)))
	r.wantWritten(bytes(20, 50))
	r.wantFile(textOf(100)[:20] + noughts(30) + textOf(100)[50:])
}

// P18.2: up to Size, and one byte past it.
func TestWriteUpToSize(t *testing.T) {
	r := rigWith(t, textOf(40))
	r.wantWriteOf(7, 38, "ab", api.OK)
	r.wantPuts(patched(1, 6, "ab"))
	r.wantWritten(bytes(38, 40))
	r.wantWriteOf(7, 38, "abc", api.OK)
	r.wantPuts(patched(1, 6, "abc"), sized(41))
	r.wantWritten(bytes(38, 41), size())
	r.wantRead(size())
	r.wantFile(textOf(40)[:38] + "abc")
	// The Size is the delta's then.
	r.wantWriteOf(7, 40, "d", api.OK)
	r.wantPuts(patched(1, 8, "d"))
	r.wantWritten(bytes(40, 41))
	r.wantNothing()
	r.wantPutsBackwards()
}

// P18.2: without data: the Size is read, and nothing else happens, from however far on.
func TestWriteOfNothing(t *testing.T) {
	for _, off := range []int{0, 1, 39, 40, 41, 512, 513, 1 << 32, math.MaxInt} {
		r := rigOf(t, 0, file(40), textOf(40))
		r.wantWriteOf(7, off, "", api.OK)
		r.wantRead(size())
		r.wantAsked()
		r.wantNothing()
		r.wantFile(textOf(40))
	}
}

// P18.2: past MaxSize: ErrSize; the Size is read, and nothing else happens, also of what would fit.
func TestWritePastMaxSize(t *testing.T) {
	for _, x := range []struct{ off, n int }{{449, 64}, {510, 3}, {511, 2}, {512, 1}, {512, 64}, {513, 1}, {1 << 31, 1}, {1 << 32, 1}, {1<<32 - 1, 1}, {math.MaxInt, 1}, {math.MaxInt, 64}, {math.MaxInt - 1, 2}, {math.MaxInt - 63, 64}, {math.MaxInt - 64, 64}} {
		for _, n := range []int{0, 40, 512} {
			r := rigWith(t, textOf(n))
			r.wantWriteOf(7, x.off, textOf(x.n), api.ErrSize)
			r.wantRead(size())
			r.wantAsked()
			r.wantNothing()
			r.wantFile(textOf(n))
		}
	}
}

// P18.2: each Put's error in turn is handed on: what was put in till then is in; the bytes are written only behind all patches, the Size only behind its own.
func TestWriteWithoutRoom(t *testing.T) {
	data := textOf(64)
	changes := append(laidBy(30, data), sized(94))
	for most := range len(changes) {
		r := rigOf(t, most, file(40), textOf(40))
		r.wantWriteOf(7, 30, data, api.ErrTooBig)
		r.wantRead(size())
		r.wantPuts(changes[:most]...)
		if most == 3 {
			r.wantWritten(bytes(30, 94))
		}
		r.wantNothing()
		r.wantInode(file(40))
		r.wantPutsBackwards()
	}
	r := rigOf(t, 4, file(40), textOf(40))
	r.wantWriteOf(7, 30, data, api.OK)
	r.wantPuts(changes...)
	// Within Size no room is wanted for the record; what has a change wants none.
	r = rigOf(t, 3, file(94), textOf(94))
	for range 3 {
		r.wantWriteOf(7, 30, data, api.OK)
	}
	r.wantWriteOf(7, 96-2, "x", api.ErrTooBig)
}

// P18.2: places that have a change have room: the first one that has none is where it ends.
func TestWriteWithSomeRoom(t *testing.T) {
	r := rigOf(t, 2, file(100), textOf(100))
	r.put(patched(0, 0, "a"), gone(2))
	r.wantWriteOf(7, 30, textOf(64), api.ErrTooBig)
	r.wantPuts(patched(0, 30, textOf(2)))
	r.wantRead(size())
	r.wantNothing()
}

// P18.2: no chunk of the base is asked for: whether it fails does not matter.
func TestWriteWhereChunksFail(t *testing.T) {
	for _, fault := range faults {
		r := rigWith(t, textOf(100))
		for n := range 16 {
			r.base.faults[chunkKey(7, n)] = fault
		}
		r.wantWriteOf(7, 50, textOf(64), api.OK)
		r.wantPuts(append(laidBy(50, textOf(64)), sized(114))...)
		r.wantWritten(bytes(50, 114), size())
		r.wantAsked()
	}
}

// P18.2: a record that fails when the Size is to be set: what was put in and written till then is so.
func TestWriteWhereSetFails(t *testing.T) {
	for _, fault := range faults {
		r := rigWith(t, textOf(40))
		r.base.fault, r.base.spared = fault, 2
		r.wantWriteOf(7, 39, "ab", fault)
		r.wantPuts(patched(1, 7, "ab"))
		r.wantRead(size())
		r.wantWritten(bytes(39, 41))
		r.wantNothing()
		r.base.fault = api.OK
		r.wantInode(file(40))
		// Within Size it is not to be set.
		r = rigWith(t, textOf(40))
		r.base.fault, r.base.spared = fault, 2
		r.wantWriteOf(7, 38, "ab", api.OK)
	}
}

// P18.2: of a file that was made in the delta: its record becomes a Fresh one of that Size.
func TestWriteOfAFreshFile(t *testing.T) {
	r := rigOf(t, 2, dir(), "")
	record := api.Place{Ino: 3, Part: api.Record}
	r.put(api.Change{Place: record, Fresh: true, Inode: file(0)})
	r.wantWriteOf(3, 4, "x", api.OK)
	if c, is := r.delta.Get(record); !is || c != (api.Change{Place: record, Fresh: true, Inode: file(5)}) {
		t.Errorf("the record's change: got %+v, %v", c, is)
	}
	r.wantReadOf(3, 0, 64, "\x00\x00\x00\x00x", api.OK)
	r.wantRead(api.Touch{Kind: api.Size, Ino: 3}, api.Touch{Kind: api.Bytes, Ino: 3, Hi: 5})
	r.wantWritten(api.Touch{Kind: api.Bytes, Ino: 3, Lo: 4, Hi: 5}, api.Touch{Kind: api.Size, Ino: 3})
}
