package extent_test

import (
	"math"
	"testing"

	"armoire/api"
)

// wipedBy are the changes of a cut from one Size down to another, by the document's words.
func wipedBy(from, to int) []api.Change {
	var l []api.Change
	n := to / 32
	if to%32 != 0 {
		l = append(l, zeroed(n, to%32))
		n++
	}
	for last := (from - 1) / 32; n <= last; n++ {
		l = append(l, gone(n))
	}
	return l
}

// P18.3: from each Size at a bound to each: the Size is read; if it is less, the rest of a chunk becomes 0, the chunks behind are gone, the bytes are written; the Size is set and written.
func TestTruncate(t *testing.T) {
	for _, from := range bounds(512) {
		was := textOf(from)
		for _, to := range bounds(512) {
			r := rigWith(t, was)
			r.wantTruncateOf(7, to, api.OK)
			r.wantRead(size())
			var changes []api.Change
			var touches []api.Touch
			if to < from {
				changes, touches = wipedBy(from, to), append(touches, bytes(to, from))
			}
			if to != from {
				changes, touches = append(changes, sized(to)), append(touches, size())
			}
			r.wantPuts(changes...)
			r.wantWritten(touches...)
			r.wantFile((was + noughts(512))[:to])
			r.wantNothing()
			if t.Failed() {
				t.Fatalf("from %d to %d", from, to)
			}
		}
	}
}

// P18.3: of the bounds of chunks, said by hand, in their order.
func TestTruncateAtBounds(t *testing.T) {
	for _, x := range []struct {
		from, to int
		want     []api.Change
	}{
		{1, 0, []api.Change{gone(0)}},
		{2, 1, []api.Change{zeroed(0, 1)}},
		{32, 31, []api.Change{zeroed(0, 31)}},
		{32, 0, []api.Change{gone(0)}},
		{33, 32, []api.Change{gone(1)}},
		{33, 31, []api.Change{zeroed(0, 31), gone(1)}},
		{33, 0, []api.Change{gone(0), gone(1)}},
		{64, 32, []api.Change{gone(1)}},
		{64, 33, []api.Change{zeroed(1, 1)}},
		{65, 63, []api.Change{zeroed(1, 31), gone(2)}},
		{96, 10, []api.Change{zeroed(0, 10), gone(1), gone(2)}},
		{97, 10, []api.Change{zeroed(0, 10), gone(1), gone(2), gone(3)}},
		{512, 511, []api.Change{zeroed(15, 31)}},
		{512, 480, []api.Change{gone(15)}},
		{511, 470, []api.Change{zeroed(14, 22), gone(15)}},
	} {
		r := rigWith(t, textOf(x.from))
		r.wantTruncateOf(7, x.to, api.OK)
		r.wantPuts(append(x.want, sized(x.to))...)
		r.wantWritten(bytes(x.to, x.from), size())
		r.wantRead(size())
		r.wantFile(textOf(x.from)[:x.to])
		r.wantPutsBackwards()
	}
}

// P18.3: all of 512 bytes: 16 chunks are gone, and there is room for no fewer places.
func TestTruncateOfAll(t *testing.T) {
	r := rigOf(t, 17, file(512), textOf(512))
	r.wantTruncateOf(7, 0, api.OK)
	r.wantPuts(append(wipedBy(512, 0), sized(0))...)
	r.wantAsked()
	if r.delta.Count() != 17 {
		t.Errorf("got %d places", r.delta.Count())
	}
	r.wantFile("")
	r.wantPutsBackwards()
}

// P18.3: chunks that do not stand there are gone, and patched, as others are.
func TestTruncateOfChunksThatAreNotThere(t *testing.T) {
	r := rigOf(t, api.MaxPlaces, file(100), "")
	r.wantTruncateOf(7, 10, api.OK)
	r.wantPuts(zeroed(0, 10), gone(1), gone(2), gone(3), sized(10))
	r.wantWritten(bytes(10, 100), size())
	r.wantAsked()
	r.wantPutsBackwards()
}

// P18.3: to a greater Size: that alone is set; no byte is written, no chunk is put in or asked for.
func TestTruncateUp(t *testing.T) {
	for _, x := range []struct{ from, to int }{{0, 1}, {0, 512}, {31, 32}, {32, 33}, {40, 41}, {40, 512}, {511, 512}} {
		r := rigOf(t, 1, file(x.from), textOf(x.from))
		r.wantTruncateOf(7, x.to, api.OK)
		r.wantPuts(sized(x.to))
		r.wantRead(size())
		r.wantWritten(size())
		r.wantAsked()
		r.wantFile(textOf(x.from) + noughts(x.to-x.from))
		r.wantNothing()
	}
}

// P18.3: to the Size that it has: it is read, and that is all.
func TestTruncateToTheSame(t *testing.T) {
	for _, n := range []int{0, 1, 31, 32, 33, 512} {
		r := rigOf(t, 0, file(n), textOf(n))
		r.wantTruncateOf(7, n, api.OK)
		r.wantRead(size())
		r.wantAsked()
		r.wantNothing()
		r.wantFile(textOf(n))
	}
}

// P18.3: to what no file's Size may be: ErrSize; the Size is read, and that is all.
func TestTruncateToNoSize(t *testing.T) {
	for _, to := range []int{-1, -2, -32, -512, math.MinInt32, math.MinInt, 513, 514, 544, 1024, 1 << 32, 1<<32 + 5, math.MaxInt} {
		for _, n := range []int{0, 40, 512} {
			r := rigWith(t, textOf(n))
			r.wantTruncateOf(7, to, api.ErrSize)
			r.wantRead(size())
			r.wantAsked()
			r.wantNothing()
			r.wantFile(textOf(n))
		}
	}
}

// P18.3: each Put's error in turn is handed on: what was put in till then is in; the bytes are written only behind all chunks, the Size only behind its own.
func TestTruncateWithoutRoom(t *testing.T) {
	changes := append(wipedBy(130, 40), sized(40))
	if len(changes) != 5 {
		t.Fatalf("%d changes", len(changes))
	}
	for most := range 5 {
		r := rigOf(t, most, file(130), textOf(130))
		r.wantTruncateOf(7, 40, api.ErrTooBig)
		r.wantRead(size())
		r.wantPuts(changes[:most]...)
		if most == 4 {
			r.wantWritten(bytes(40, 130))
		}
		r.wantNothing()
		r.wantInode(file(130))
		r.wantPutsBackwards()
	}
	r := rigOf(t, 0, file(130), textOf(130))
	r.wantTruncateOf(7, 131, api.ErrTooBig)
	r.wantRead(size())
	r.wantNothing()
	r.wantFile(textOf(130))
}

// P18.3: places that have a change have room: the first one that has none is where it ends.
func TestTruncateWithSomeRoom(t *testing.T) {
	r := rigOf(t, 2, file(100), textOf(100))
	r.put(patched(1, 0, "a"), gone(3))
	r.wantTruncateOf(7, 40, api.ErrTooBig)
	r.wantPuts(zeroed(1, 8))
	r.wantRead(size())
	r.wantNothing()
	r.wantPutsBackwards()
}

// P18.3: no chunk of the base is asked for: whether it fails does not matter.
func TestTruncateWhereChunksFail(t *testing.T) {
	for _, fault := range faults {
		r := rigWith(t, textOf(100))
		for n := range 16 {
			r.base.faults[chunkKey(7, n)] = fault
		}
		r.wantTruncateOf(7, 40, api.OK)
		r.wantPuts(append(wipedBy(100, 40), sized(40))...)
		r.wantAsked()
	}
}

// P18.3: a record that fails when the Size is to be set: what was put in and written till then is so.
func TestTruncateWhereSetFails(t *testing.T) {
	for _, fault := range faults {
		r := rigWith(t, textOf(100))
		r.base.fault, r.base.spared = fault, 2
		r.wantTruncateOf(7, 40, fault)
		r.wantPuts(wipedBy(100, 40)...)
		r.wantRead(size())
		r.wantWritten(bytes(40, 100))
		r.wantNothing()
		r = rigWith(t, textOf(100))
		r.base.fault, r.base.spared = fault, 2
		r.wantTruncateOf(7, 101, fault)
		r.wantRead(size())
		r.wantNothing()
		// To the same it is not to be set.
		r = rigWith(t, textOf(100))
		r.base.fault, r.base.spared = fault, 2
		r.wantTruncateOf(7, 100, api.OK)
		r.wantTruncateOf(7, 100, fault)
	}
}

// P18.3: what the delta has of chunks is cut, too; the Size that is cut is the delta's.
func TestTruncateOfTheDelta(t *testing.T) {
	r := rigWith(t, textOf(40))
	r.put(sized(100), patched(1, 5, "abcdefgh"), patched(2, 0, "x"), patched(3, 0, "y"))
	r.wantTruncateOf(7, 39, api.OK)
	r.wantPuts(zeroed(1, 7), gone(2), gone(3), sized(39))
	r.wantWritten(bytes(39, 100), size())
	r.wantFile(textOf(40)[:37] + "ab")
	r.wantPutsBackwards()
}
