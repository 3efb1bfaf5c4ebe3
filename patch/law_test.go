package patch_test

import (
	"math/rand"
	"testing"

	"armoire/api"
	"armoire/patch"
)

// wantLayOfJoin: Lay of Join is Lay of both, one behind the other.
func wantLayOfJoin(t *testing.T, bytes chunk, a, b api.Patch) {
	t.Helper()
	wantLay(t, bytes, patch.Join(a, b), patch.Lay(patch.Lay(bytes, a), b))
}

// wantAnyTwoFirst: which two of three are joined first does not matter.
func wantAnyTwoFirst(t *testing.T, a, b, c api.Patch) {
	t.Helper()
	wantJoin(t, a, patch.Join(b, c), patch.Join(patch.Join(a, b), c))
}

// wantAnyOrder: two without a bit in common may be laid, and joined, in any order.
func wantAnyOrder(t *testing.T, bytes chunk, a, b api.Patch) {
	t.Helper()
	wantLay(t, patch.Lay(bytes, a), b, patch.Lay(patch.Lay(bytes, b), a))
	wantJoin(t, a, b, patch.Join(b, a))
}

// P12.3: Lay of Join, of each of some patches with each.
func TestLayOfJoin(t *testing.T) {
	for _, bytes := range someChunks() {
		for _, a := range fewPatches() {
			for _, b := range fewPatches() {
				wantLayOfJoin(t, bytes, a, b)
			}
		}
	}
}

// P12.3: three patches joined either way.
func TestThreeJoined(t *testing.T) {
	for _, a := range fewPatches() {
		for _, b := range fewPatches() {
			for _, c := range fewPatches() {
				wantAnyTwoFirst(t, a, b, c)
			}
		}
	}
}

// P12.3: each mask and what it leaves, or a piece of that, in either order.
func TestInAnyOrder(t *testing.T) {
	for _, bytes := range someChunks() {
		for _, mask := range someMasks() {
			for _, piece := range someMasks() {
				a := api.Patch{Mask: mask, Bytes: numbered(50)}
				b := api.Patch{Mask: piece &^ mask, Bytes: numbered(150)}
				wantAnyOrder(t, bytes, a, b)
			}
		}
	}
}

// P12.3: those that are made by Of and Zero, side by side, in either order.
func TestSideBySide(t *testing.T) {
	for off := range api.Chunk + 1 {
		a, _ := patch.Of(0, "abcdefghijklmnopqrstuvwxyzABCDEF"[:off])
		z, _ := patch.Zero(off)
		wantAnyOrder(t, filled('b'), a, z)
		wantLay(t, filled('b'), patch.Join(a, z), a.Bytes)
	}
}

// P12.3: all of it, of some of everything; and a long row of patches, joined one by one, does what all of them do.
func TestLawsOfEverything(t *testing.T) {
	r := rand.New(rand.NewSource(123))
	for range 5000 {
		var bytes chunk
		r.Read(bytes[:])
		a, b, c := anyPatch(r), anyPatch(r), anyPatch(r)
		wantLayOfJoin(t, bytes, a, b)
		wantAnyTwoFirst(t, a, b, c)
		a.Fresh, b.Fresh, b.Mask = false, false, b.Mask&^a.Mask
		wantAnyOrder(t, bytes, a, b)
	}
	for range 200 {
		var first chunk
		r.Read(first[:])
		var all api.Patch
		bytes := first
		for range 20 {
			p := anyPatch(r)
			p.Mask &= r.Uint32() & r.Uint32()
			all, bytes = patch.Join(all, p), laid(bytes, p)
			wantLay(t, first, all, bytes)
		}
	}
}
