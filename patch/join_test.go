package patch_test

import (
	"testing"

	"armoire/api"
)

// P12.2: Join of two that share the bits 8 to 15, with Bytes that are not 0 where no bit is set, Fresh or not.
func TestJoin(t *testing.T) {
	a := api.Patch{Mask: 0x0000ffff, Bytes: filled('a')}
	b := api.Patch{Mask: 0x00ffff00, Bytes: filled('b')}
	both := bytesAt(0, "aaaaaaaabbbbbbbbbbbbbbbb")
	onlyB := bytesAt(8, "bbbbbbbbbbbbbbbb")
	freshA, freshB := a, b
	freshA.Fresh, freshB.Fresh = true, true
	wantJoin(t, a, b, api.Patch{Mask: 0x00ffffff, Bytes: both})
	wantJoin(t, freshA, b, api.Patch{Fresh: true, Mask: 0x00ffffff, Bytes: both})
	wantJoin(t, a, freshB, api.Patch{Fresh: true, Mask: 0x00ffff00, Bytes: onlyB})
	wantJoin(t, freshA, freshB, api.Patch{Fresh: true, Mask: 0x00ffff00, Bytes: onlyB})
}

// P12.2: Join of two that share no bit; the one between them belongs to neither.
func TestJoinWithoutABitInCommon(t *testing.T) {
	a := api.Patch{Mask: 0x8000000f, Bytes: filled('a')}
	b := api.Patch{Mask: 0x700000e0, Bytes: filled('b')}
	both := bytesAt(0, "aaaa\x00bbb")
	copy(both[28:], "bbba")
	want := api.Patch{Mask: 0xf00000ef, Bytes: both}
	wantJoin(t, a, b, want)
	wantJoin(t, b, a, want)
	a.Fresh, want.Fresh = true, true
	wantJoin(t, a, b, want)
}

// P12.2: b lays noughts over what a laid, and these count.
func TestJoinOfNoughts(t *testing.T) {
	a := api.Patch{Mask: 0xffffffff, Bytes: filled('a')}
	b := api.Patch{Mask: 0xfffffff0}
	wantJoin(t, a, b, api.Patch{Mask: 0xffffffff, Bytes: bytesAt(0, "aaaa")})
	wantJoin(t, b, a, a)
}

// P12.2: a patch that does nothing changes none that it is joined with, but what does not matter is 0.
func TestJoinOfNothing(t *testing.T) {
	nothing := api.Patch{Bytes: filled('n')}
	for _, p := range somePatches() {
		wantJoin(t, p, nothing, trimmed(p))
		wantJoin(t, nothing, p, trimmed(p))
	}
}

// P12.2: Join of a Fresh b is Trim of it, whatever a is.
func TestJoinOfAFreshOne(t *testing.T) {
	for _, a := range fewPatches() {
		for _, b := range somePatches() {
			b.Fresh = true
			wantJoin(t, a, b, trimmed(b))
		}
	}
}

// P12.2: Join of everything is what the document says, byte by byte.
func TestJoinOfEverything(t *testing.T) {
	for _, a := range somePatches() {
		for _, b := range fewPatches() {
			wantJoin(t, a, b, joined(a, b))
			wantJoin(t, b, a, joined(b, a))
		}
	}
}
