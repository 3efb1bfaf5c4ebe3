package trunk_test

import (
	"fmt"
	"maps"
	"reflect"
	"slices"
	"strings"
	"testing"

	"armoire/api"
	"armoire/disk"
	"armoire/trunk"
)

const fixed = api.Fixed + api.LogBlocks // blocks that are not the pool's

func key(n int) string { return fmt.Sprintf("%014d", n) }

func put(n int, value string) trunk.Step { return trunk.Step{Key: key(n), Value: value} }

func gone(n int) trunk.Step { return trunk.Step{Key: key(n), Gone: true} }

// puts are steps that put one value at keys from one on.
func puts(from, count int, value string) []trunk.Step {
	var l []trunk.Step
	for n := range count {
		l = append(l, put(from+n, value))
	}
	return l
}

func pairs(count int) []api.KV {
	var l []api.KV
	for n := range count {
		l = append(l, api.KV{Key: key(n), Value: "v"})
	}
	return l
}

func newDisk(t *testing.T, blocks int) *disk.Disk {
	t.Helper()
	d, err := disk.New(blocks)
	if err != api.OK {
		t.Fatalf("disk.New(%d): got %d", blocks, err)
	}
	return d
}

// newTrunk is a trunk on a disk of its own.
func newTrunk(t *testing.T, blocks int, l ...api.KV) (*disk.Disk, *trunk.Trunk) {
	t.Helper()
	d := newDisk(t, blocks)
	x, err := trunk.Make(d, l, 2)
	if x == nil || err != api.OK {
		t.Fatalf("Make: got %v, %d", x, err)
	}
	return d, x
}

func mustOpen(t *testing.T, d *disk.Disk) *trunk.Trunk {
	t.Helper()
	x, err := trunk.Open(d)
	if x == nil || err != api.OK {
		t.Fatalf("Open: got %v, %d", x, err)
	}
	return x
}

func mustCommit(t *testing.T, x *trunk.Trunk, next uint32, l ...trunk.Step) {
	t.Helper()
	if err := x.Commit(l, next); err != api.OK {
		t.Fatalf("Commit of %d steps: got %d", len(l), err)
	}
}

func mustReclaim(t *testing.T, x *trunk.Trunk, keep ...uint32) int {
	t.Helper()
	n, err := x.Reclaim(keep)
	if err != api.OK {
		t.Fatalf("Reclaim(%v): got %d", keep, err)
	}
	return n
}

func mustSpace(t *testing.T, x *trunk.Trunk, keep ...uint32) api.Space {
	t.Helper()
	s, err := x.Space(keep)
	if err != api.OK {
		t.Fatalf("Space(%v): got %d", keep, err)
	}
	return s
}

func cutAndPower(d *disk.Disk, mask string) {
	d.Cut(mask)
	d.Power()
}

// read is all that From tells of a root.
func read(t *testing.T, x *trunk.Trunk, root uint32) map[string]string {
	t.Helper()
	m, last := map[string]string{}, ""
	for p, err := range x.From(root, "") {
		if err != api.OK || p.Key <= last {
			t.Fatalf("From(%d): got %q behind %q, %d", root, p.Key, last, err)
		}
		m[p.Key], last = p.Value, p.Key
	}
	return m
}

// seen is what a trunk tells of itself, but for its root.
type seen struct {
	pairs   map[string]string
	version uint64
	items   int
	next    uint32
}

func look(t *testing.T, x *trunk.Trunk) seen {
	t.Helper()
	return seen{pairs: read(t, x, x.Root()), version: x.Version(), items: x.Items(), next: x.Next()}
}

func (s seen) same(o seen) bool { return reflect.DeepEqual(s, o) }

// behind is what is seen behind a commit of these steps, by the document's words.
func (s seen) behind(l []trunk.Step, next uint32) seen {
	m := maps.Clone(s.pairs)
	for _, step := range l {
		if step.Gone {
			delete(m, step.Key)
		} else {
			m[step.Key] = step.Value
		}
	}
	return seen{pairs: m, version: s.version + 1, items: len(m), next: next}
}

func wantSeen(t *testing.T, x *trunk.Trunk, want seen) {
	t.Helper()
	if got := look(t, x); !got.same(want) {
		t.Fatalf("got %v, want %v", got, want)
	}
}

func wantCommitErr(t *testing.T, x *trunk.Trunk, l []trunk.Step, want api.Errno) {
	t.Helper()
	root, version, items, next := x.Root(), x.Version(), x.Items(), x.Next()
	if err := x.Commit(l, next+1); err != want {
		t.Errorf("Commit of %d steps: got %d, want %d", len(l), err, want)
	}
	if x.Root() != root || x.Version() != version || x.Items() != items || x.Next() != next {
		t.Errorf("Commit of %d steps, %d: something has changed", len(l), want)
	}
}

// wantMakeErr looks too that nothing was written.
func wantMakeErr(t *testing.T, d *disk.Disk, l []api.KV, want api.Errno) {
	t.Helper()
	writes := 0
	if d != nil {
		writes = d.Writes()
	}
	if x, err := trunk.Make(d, l, 7); x != nil || err != want {
		t.Errorf("Make of %d pairs: got %v, %d, want %d", len(l), x, err, want)
	}
	if d != nil && d.Writes() != writes {
		t.Errorf("Make of %d pairs, %d: something was written", len(l), want)
	}
}

func wantOpenErr(t *testing.T, d *disk.Disk, want api.Errno) {
	t.Helper()
	if x, err := trunk.Open(d); x != nil || err != want {
		t.Errorf("Open: got %v, %d, want %d", x, err, want)
	}
}

// wantSpace looks at what P11.5 and P11.7 say of all spaces: lists that rise, and together are the pool's blocks.
func wantSpace(t *testing.T, d *disk.Disk, s api.Space) {
	t.Helper()
	for _, l := range [][]int{s.Trunk, s.Held, s.Waiting, s.Free} {
		if !slices.IsSorted(l) {
			t.Fatalf("%v: a list does not rise", s)
		}
	}
	all := slices.Sorted(slices.Values(slices.Concat(s.Trunk, s.Held, s.Waiting, s.Free)))
	if len(all) != d.Blocks()-fixed {
		t.Fatalf("%v: %d blocks, want %d", s, len(all), d.Blocks()-fixed)
	}
	for i, block := range all {
		if block != fixed+i {
			t.Fatalf("%v: the block %d is not there once", s, fixed+i)
		}
	}
}

// wantBounds are P11.7's counts, with changed as the document counts it.
func wantBounds(t *testing.T, x *trunk.Trunk, s api.Space, changed int) {
	t.Helper()
	tree := x.Items()/4 + 4
	if len(s.Trunk) > tree {
		t.Fatalf("Trunk has %d blocks, %d items", len(s.Trunk), x.Items())
	}
	if used := len(s.Trunk) + len(s.Held) + len(s.Waiting); used > tree+9*changed {
		t.Fatalf("%d blocks are used, %d items, %d changed", used, x.Items(), changed)
	}
}

// masks are all that may survive of so many blocks.
func masks(count int) []string {
	var l []string
	for bits := range 1 << count {
		mask := make([]byte, count)
		for i := range mask {
			mask[i] = byte(bits >> i & 1)
		}
		l = append(l, string(mask))
	}
	return l
}

// someMasks are for more blocks than all masks can be tried of.
func someMasks() []string {
	return append(masks(3), strings.Repeat("\x01", 99), strings.Repeat("\x01\x00", 50), strings.Repeat("\x00\x01", 50), strings.Repeat("\x00\x00\x01\x01", 25))
}
