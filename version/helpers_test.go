package version_test

import (
	"math"
	"slices"
	"testing"

	"armoire/api"
	"armoire/version"
)

const (
	lastRoot    uint32 = math.MaxUint32
	lastVersion uint64 = math.MaxUint64
)

func newRegistry(t *testing.T, root uint32, at uint64) *version.Registry {
	t.Helper()
	r := version.New(root, at)
	if r == nil {
		t.Fatalf("New(%d, %d): none", root, at)
	}
	wantTrunk(t, r, root, at)
	return r
}

func wantOpen(t *testing.T, r *version.Registry, id int, root uint32, at uint64) {
	t.Helper()
	if i, ro, v := r.Open(); i != id || ro != root || v != at {
		t.Errorf("Open: got %d, %d, %d, want %d, %d, %d", i, ro, v, id, root, at)
	}
}

func wantClose(t *testing.T, r *version.Registry, id int, want api.Errno) {
	t.Helper()
	if err := r.Close(id); err != want {
		t.Errorf("Close(%d): got %d, want %d", id, err, want)
	}
}

func wantSnapshot(t *testing.T, r *version.Registry, id int, root uint32, at uint64) {
	t.Helper()
	if ro, v, err := r.Snapshot(id); ro != root || v != at || err != api.OK {
		t.Errorf("Snapshot(%d): got %d, %d, %d, want %d, %d, 0", id, ro, v, err, root, at)
	}
}

// wantNone asks for a snapshot that is not open.
func wantNone(t *testing.T, r *version.Registry, id int) {
	t.Helper()
	if ro, v, err := r.Snapshot(id); ro != 0 || v != 0 || err != api.ErrNone {
		t.Errorf("Snapshot(%d): got %d, %d, %d, want 0, 0, %d", id, ro, v, err, api.ErrNone)
	}
	wantClose(t, r, id, api.ErrNone)
}

func wantNext(t *testing.T, r *version.Registry, root uint32, places int, want api.Errno) {
	t.Helper()
	if err := r.Next(root, places); err != want {
		t.Errorf("Next(%d, %d): got %d, want %d", root, places, err, want)
	}
}

func wantTrunk(t *testing.T, r *version.Registry, root uint32, at uint64) {
	t.Helper()
	if ro, v := r.Trunk(); ro != root || v != at {
		t.Errorf("Trunk: got %d, %d, want %d, %d", ro, v, root, at)
	}
}

// wantSeen holds what is asked of all versions together against what it is to be.
func wantSeen(t *testing.T, r *version.Registry, horizon uint64, window int, kept ...uint32) {
	t.Helper()
	if h := r.Horizon(); h != horizon {
		t.Errorf("Horizon: got %d, want %d", h, horizon)
	}
	if w := r.Window(); w != window {
		t.Errorf("Window: got %d, want %d", w, window)
	}
	if k := r.Kept(); !slices.Equal(k, kept) {
		t.Errorf("Kept: got %v, want %v", k, kept)
	}
}
