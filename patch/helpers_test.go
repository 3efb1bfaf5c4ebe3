package patch_test

import (
	"math"
	"math/rand"
	"strings"
	"testing"

	"armoire/api"
	"armoire/patch"
)

type chunk = [api.Chunk]byte

// Offsets: all within a chunk, the edges that the document names, and what is taken for one of them if only some of its bits are looked at, or if a sum wraps round.
func someOffs() []int {
	l := []int{math.MinInt, math.MinInt + 1, math.MinInt + 32, -1 << 32, -64, -33, -32, -2, -1, 33, 34, 63, 64, 255, 256, 1 << 31, 1 << 32, 1<<32 + 5, math.MaxInt - 32, math.MaxInt - 1, math.MaxInt}
	for off := range api.Chunk + 1 {
		l = append(l, off)
	}
	return l
}

// Masks: no bit, all bits, each one alone and all but it, those below and above each, every other one, and some of everything.
func someMasks() []uint32 {
	l := []uint32{0, math.MaxUint32, 0x55555555, 0xaaaaaaaa, 0x0000ffff, 0xffff0000, 0x80000001, 0x7ffffffe}
	for i := range api.Chunk {
		bit := uint32(1) << i
		l = append(l, bit, ^bit, bit-1, ^(bit - 1))
	}
	r := rand.New(rand.NewSource(12))
	for range 40 {
		l = append(l, r.Uint32(), r.Uint32()&r.Uint32()&r.Uint32(), r.Uint32()|r.Uint32()|r.Uint32())
	}
	return l
}

// Chunks: all bytes 0, none of them 0 and no two alike, all alike, and some of everything.
func someChunks() []chunk {
	l := []chunk{{}, numbered(1), numbered(200), filled(0xff)}
	r := rand.New(rand.NewSource(34))
	for range 3 {
		var c chunk
		r.Read(c[:])
		l = append(l, c)
	}
	return l
}

// Patches: of each mask, Fresh or not, with Bytes that are not 0 where no bit is set, and with some that are 0 where one is.
func somePatches() []api.Patch {
	var l []api.Patch
	for _, mask := range someMasks() {
		for _, fresh := range []bool{false, true} {
			for _, bytes := range []chunk{{}, numbered(100), filled('x')} {
				l = append(l, api.Patch{Fresh: fresh, Mask: mask, Bytes: bytes})
			}
		}
	}
	return l
}

// fewPatches are so few that each may be joined with each, and that with each.
func fewPatches() []api.Patch {
	var l []api.Patch
	for i, mask := range []uint32{0, math.MaxUint32, 1, 1 << 31, 0x80000001, 0x0000ffff, 0x00ffff00, 0xffff0000, 0x55555555, 0xaaaaaaaa} {
		for _, fresh := range []bool{false, true} {
			l = append(l,
				api.Patch{Fresh: fresh, Mask: mask, Bytes: numbered(byte(1 + 20*i))},
				api.Patch{Fresh: fresh, Mask: mask},
			)
		}
	}
	return l
}

func anyPatch(r *rand.Rand) api.Patch {
	p := api.Patch{Fresh: r.Intn(4) == 0, Mask: r.Uint32()}
	r.Read(p.Bytes[:])
	return p
}

func numbered(first byte) chunk {
	var c chunk
	for i := range c {
		c[i] = first + byte(i)
	}
	return c
}

func filled(b byte) chunk { return chunk([]byte(strings.Repeat(string([]byte{b}), api.Chunk))) }

// isSet asks for a bit by a division, so that no shift of the program's own kind is leant on.
func isSet(mask uint32, i int) bool { return uint64(mask)/uint64(math.Pow(2, float64(i)))%2 == 1 }

// laid is what the document says of Lay, byte by byte.
func laid(bytes chunk, p api.Patch) chunk {
	var c chunk
	for i := range c {
		switch {
		case isSet(p.Mask, i):
			c[i] = p.Bytes[i]
		case !p.Fresh:
			c[i] = bytes[i]
		}
	}
	return c
}

// trimmed is what the document says of Trim, byte by byte.
func trimmed(p api.Patch) api.Patch {
	t := api.Patch{Fresh: p.Fresh, Mask: p.Mask}
	for i := range t.Bytes {
		if isSet(p.Mask, i) {
			t.Bytes[i] = p.Bytes[i]
		}
	}
	return t
}

// joined is what the document says of Join, byte by byte.
func joined(a, b api.Patch) api.Patch {
	if b.Fresh {
		return trimmed(b)
	}
	j := api.Patch{Fresh: a.Fresh, Mask: a.Mask | b.Mask}
	for i := range j.Bytes {
		switch {
		case isSet(b.Mask, i):
			j.Bytes[i] = b.Bytes[i]
		case isSet(a.Mask, i):
			j.Bytes[i] = a.Bytes[i]
		}
	}
	return j
}

func wantOf(t *testing.T, off int, data string, want api.Patch, wantErr api.Errno) {
	t.Helper()
	if p, err := patch.Of(off, data); p != want || err != wantErr {
		t.Errorf("Of(%d, %.40q): got %v, %d; want %v, %d", off, data, p, err, want, wantErr)
	}
}

func wantZero(t *testing.T, off int, want api.Patch, wantErr api.Errno) {
	t.Helper()
	if p, err := patch.Zero(off); p != want || err != wantErr {
		t.Errorf("Zero(%d): got %v, %d; want %v, %d", off, p, err, want, wantErr)
	}
}

func wantLay(t *testing.T, bytes chunk, p api.Patch, want chunk) {
	t.Helper()
	if c := patch.Lay(bytes, p); c != want {
		t.Fatalf("Lay(%q, %v): got %q, want %q", bytes, p, c, want)
	}
}

func wantJoin(t *testing.T, a, b, want api.Patch) {
	t.Helper()
	if j := patch.Join(a, b); j != want {
		t.Fatalf("Join(%v, %v): got %v, want %v", a, b, j, want)
	}
}

func wantTrim(t *testing.T, p, want api.Patch) {
	t.Helper()
	if c := patch.Trim(p); c != want {
		t.Fatalf("Trim(%v): got %v, want %v", p, c, want)
	}
}
