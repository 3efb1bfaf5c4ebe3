package patch_test

import (
	"math"
	"math/rand"
	"testing"

	"armoire/api"
	"armoire/patch"
)

// P12.2: Lay at the edges that the document names, each with Bytes that are not 0 where no bit is set.
func TestLay(t *testing.T) {
	below, above := filled('b'), filled('p')
	first, last := below, below
	first[0], last[31] = 'p', 'p'
	var firstAlone, lastAlone chunk
	firstAlone[0], lastAlone[31] = 'p', 'p'
	for _, c := range []struct {
		fresh bool
		mask  uint32
		want  chunk
	}{
		{false, 0, below},
		{false, math.MaxUint32, above},
		{false, 1, first},
		{false, 1 << 31, last},
		{true, 0, chunk{}},
		{true, math.MaxUint32, above},
		{true, 1, firstAlone},
		{true, 1 << 31, lastAlone},
	} {
		wantLay(t, below, api.Patch{Fresh: c.fresh, Mask: c.mask, Bytes: above}, c.want)
	}
}

// P12.2: the bytes of a patch are 0 where its bit is set: these are laid too.
func TestLayOfNoughts(t *testing.T) {
	for i := range api.Chunk {
		want := filled('b')
		want[i] = 0
		wantLay(t, filled('b'), api.Patch{Mask: 1 << i}, want)
		wantLay(t, filled('b'), api.Patch{Mask: 1 << i, Fresh: true}, chunk{})
	}
}

// P12.2: Lay of everything is what the document says, byte by byte.
func TestLayOfEverything(t *testing.T) {
	for _, p := range somePatches() {
		for _, bytes := range someChunks() {
			wantLay(t, bytes, p, laid(bytes, p))
		}
	}
}

// P12.2: Trim at the edges that the document names.
func TestTrim(t *testing.T) {
	full := filled('p')
	var first, last chunk
	first[0], last[31] = 'p', 'p'
	for _, fresh := range []bool{false, true} {
		for _, c := range []struct {
			mask uint32
			want chunk
		}{
			{0, chunk{}}, {math.MaxUint32, full}, {1, first}, {1 << 31, last},
		} {
			wantTrim(t, api.Patch{Fresh: fresh, Mask: c.mask, Bytes: full}, api.Patch{Fresh: fresh, Mask: c.mask, Bytes: c.want})
		}
	}
}

// P12.2: Trim of everything is what the document says; once more it changes nothing, and what is laid is the same.
func TestTrimOfEverything(t *testing.T) {
	for _, p := range somePatches() {
		want := trimmed(p)
		wantTrim(t, p, want)
		wantTrim(t, want, want)
		for _, bytes := range someChunks() {
			wantLay(t, bytes, patch.Trim(p), patch.Lay(bytes, p))
		}
	}
}

// P12.1, P12.2: what Of and Zero answer is trimmed.
func TestTrimOfWhatIsMade(t *testing.T) {
	for off := range api.Chunk + 1 {
		z, _ := patch.Zero(off)
		wantTrim(t, z, z)
		p, _ := patch.Of(off, "xyzxyzxyzxyzxyzxyzxyzxyzxyzxyzxy"[off:])
		wantTrim(t, p, p)
	}
}

// R4: what is handed in is as it was, whatever is done to what was answered.
func TestArgumentsStay(t *testing.T) {
	r := rand.New(rand.NewSource(4))
	for range 200 {
		a, b := anyPatch(r), anyPatch(r)
		bytes := numbered(byte(r.Intn(256)))
		wasA, wasB, wasBytes := a, b, bytes
		c, j, s := patch.Lay(bytes, a), patch.Join(a, b), patch.Trim(b)
		for i := range api.Chunk {
			c[i]++
			j.Bytes[i]++
			s.Bytes[i]++
		}
		if a != wasA || b != wasB || bytes != wasBytes {
			t.Fatalf("%v, %v, %q became %v, %v, %q", wasA, wasB, wasBytes, a, b, bytes)
		}
	}
}
