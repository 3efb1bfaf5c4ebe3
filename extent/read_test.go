package extent_test

import (
	"math"
	"strings"
	"testing"

	"armoire/api"
)

// part are the bytes of data from off on, n of them, or as many as there are.
func part(data string, off, n int) string {
	if off >= len(data) {
		return ""
	}
	return data[off:][:min(n, len(data)-off)]
}

// P18.1: of files of each Size at a bound, from each byte at a bound on, by some lengths: the Size, and then the bytes are read; of the base just their chunks are asked for, rising.
func TestRead(t *testing.T) {
	for _, n := range []int{0, 1, 2, 31, 32, 33, 63, 64, 65, 96, 100, 480, 511, 512} {
		data := textOf(n)
		for _, off := range bounds(513) {
			for _, length := range []int{0, 1, 2, 31, 32, 33, 63, 64} {
				r := rigWith(t, data)
				want := part(data, off, length)
				r.wantReadOf(7, off, length, want, api.OK)
				touches, chunks := []api.Touch{size()}, []int(nil)
				if want != "" {
					touches = append(touches, bytes(off, off+len(want)))
					for c := off / 32; 32*c < off+len(want); c++ {
						chunks = append(chunks, c)
					}
				}
				r.wantRead(touches...)
				r.wantAsked(chunks...)
				r.wantNothing()
			}
			if t.Failed() {
				t.FailNow()
			}
		}
	}
}

// P18.1: of the bounds, said by hand.
func TestReadAtBounds(t *testing.T) {
	data := textOf(100)
	for _, x := range []struct {
		off, n int
		want   string
	}{{0, 64, data[:64]}, {0, 0, ""}, {99, 1, data[99:]}, {99, 2, data[99:]}, {100, 1, ""}, {100, 0, ""}, {101, 64, ""}, {36, 64, data[36:]}, {37, 64, data[37:]}, {31, 2, data[31:33]}, {32, 32, data[32:64]}, {16, 64, data[16:80]}, {math.MaxInt, 64, ""}, {math.MaxInt - 64, 64, ""}, {1 << 32, 1, ""}, {1 << 31, 64, ""}, {math.MaxInt, 0, ""}} {
		r := rigWith(t, data)
		r.wantReadOf(7, x.off, x.n, x.want, api.OK)
		touches := []api.Touch{size()}
		if x.want != "" {
			touches = append(touches, bytes(x.off, x.off+len(x.want)))
		}
		r.wantRead(touches...)
		r.wantNothing()
	}
}

// P18.1: a chunk that does not stand there is all 0.
func TestReadOfChunksThatAreNotThere(t *testing.T) {
	data := textOf(512)
	for missing := range 16 {
		for _, wild := range []bool{false, true} {
			r := rigWith(t, data)
			r.base.wild = wild
			delete(r.base.values, chunkKey(7, missing))
			want := data[:32*missing] + noughts(32) + data[32*missing+32:]
			for off := 0; off < 512; off += 48 {
				r.wantReadOf(7, off, 64, part(want, off, 64), api.OK)
			}
		}
	}
	r := rigOf(t, 0, file(70), "")
	r.wantReadOf(7, 0, 64, noughts(64), api.OK)
	r.wantReadOf(7, 60, 64, noughts(10), api.OK)
	r.wantAsked(0, 1, 1, 2)
}

// P18.1: what stands behind Size is not read, although it is in the last chunk, and in others.
func TestReadBehindSize(t *testing.T) {
	r := rigOf(t, 0, file(40), textOf(512))
	r.wantReadOf(7, 0, 64, textOf(40), api.OK)
	r.wantReadOf(7, 39, 64, textOf(40)[39:], api.OK)
	r.wantReadOf(7, 40, 64, "", api.OK)
	r.wantReadOf(7, 64, 64, "", api.OK)
	r.wantRead(size(), bytes(0, 40), bytes(39, 40))
	r.wantNothing()
}

// P18.1: what the delta says of a chunk is read; where that says all, the base is not asked.
func TestReadOfTheDelta(t *testing.T) {
	data := textOf(128)
	r := rigWith(t, data)
	r.put(patched(0, 30, "ab"), gone(1), gone(2), patched(2, 1, "xy"))
	want := data[:30] + "ab" + noughts(33) + "xy" + noughts(29) + data[96:]
	for off := range 128 {
		r.wantReadOf(7, off, 64, part(want, off, 64), api.OK)
	}
	r.base.gets = nil
	r.base.faults[chunkKey(7, 1)], r.base.faults[chunkKey(7, 2)] = api.ErrDown, api.ErrDown
	r.wantReadOf(7, 20, 64, want[20:84], api.OK)
	r.wantAsked(0)
	r.wantReadOf(7, 40, 40, want[40:80], api.OK)
	r.wantAsked()
	// The Size is the delta's.
	r.put(sized(70))
	r.wantReadOf(7, 60, 64, want[60:70], api.OK)
	r.put(sized(512))
	r.wantReadOf(7, 100, 64, data[100:]+noughts(36), api.OK)
	r.wantPuts()
	r.wantWritten()
}

// P18.1: what was read already is among what was read once; other bytes are another touch.
func TestReadTwice(t *testing.T) {
	data := textOf(100)
	r := rigWith(t, data)
	for range 2 {
		r.wantReadOf(7, 10, 20, data[10:30], api.OK)
		r.wantReadOf(7, 10, 21, data[10:31], api.OK)
	}
	r.wantRead(size(), bytes(10, 30), bytes(10, 31))
	r.wantReadOf(6, 10, 20, strings.Repeat("o", 20), api.OK)
	r.wantRead(api.Touch{Kind: api.Size, Ino: 6}, api.Touch{Kind: api.Bytes, Ino: 6, Lo: 10, Hi: 30})
}

// P18.1: a chunk's error is handed on, without a byte; the bytes were read ahead of looking at the chunks; those behind are not asked for.
func TestReadOfChunksThatFail(t *testing.T) {
	data := textOf(128)
	for _, fault := range faults {
		for bad := range 3 {
			for _, wild := range []bool{false, true} {
				r := rigWith(t, data)
				r.base.faults[chunkKey(7, bad)], r.base.wild = fault, wild
				r.wantReadOf(7, 20, 64, "", fault)
				r.wantRead(size(), bytes(20, 84))
				r.wantAsked([]int{0, 1, 2}[:bad+1]...)
				r.wantNothing()
			}
		}
	}
	for _, value := range []string{"", "x", strings.Repeat("x", 31), strings.Repeat("x", 33)} {
		r := rigWith(t, data)
		r.base.values[chunkKey(7, 1)] = value
		r.wantReadOf(7, 20, 64, "", api.ErrForm)
		r.wantRead(size(), bytes(20, 84))
		r.wantReadOf(7, 20, 12, data[20:32], api.OK)
		r.wantReadOf(7, 64, 64, data[64:128], api.OK)
		r.wantReadOf(7, 128, 64, "", api.OK)
	}
}

// P18.1: where no byte is read no chunk is looked at: whether it fails does not matter.
func TestReadOfNothing(t *testing.T) {
	r := rigWith(t, textOf(40))
	for n := range 16 {
		r.base.faults[chunkKey(7, n)] = api.ErrDown
	}
	for _, x := range [][2]int{{0, 0}, {39, 0}, {40, 1}, {40, 64}, {41, 64}, {512, 64}, {math.MaxInt, 64}} {
		r.wantReadOf(7, x[0], x[1], "", api.OK)
	}
	r.wantRead(size())
	r.wantAsked()
	r.wantNothing()
}
