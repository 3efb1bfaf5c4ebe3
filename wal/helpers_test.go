package wal_test

import (
	"fmt"
	"slices"
	"strings"
	"testing"

	"armoire/api"
	"armoire/disk"
	"armoire/wal"
)

// masks are what may survive of some blocks: nothing, all, each other one, and single ones.
var masks = []string{"", strings.Repeat("\x01", 64), strings.Repeat("\x01\x00", 32), strings.Repeat("\x00\x01", 32), "\x01", "\x00\x01", "\x00\x00\x01", "\x01\x01\x00\x01"}

func newDisk(t *testing.T, blocks int) *disk.Disk {
	t.Helper()
	d, err := disk.New(blocks)
	if err != api.OK {
		t.Fatalf("disk.New(%d): got %d", blocks, err)
	}
	return d
}

// newLog is a log on all blocks of a disk of its own.
func newLog(t *testing.T, count int) (*disk.Disk, *wal.Log) {
	t.Helper()
	d := newDisk(t, count)
	return d, mustMake(t, d, 0, count)
}

func mustMake(t *testing.T, d *disk.Disk, first, count int) *wal.Log {
	t.Helper()
	l, err := wal.Make(d, first, count)
	if l == nil || err != api.OK {
		t.Fatalf("Make(%d, %d): got %v, %d", first, count, l, err)
	}
	wantEnds(t, l, 0, 0)
	return l
}

func mustOpen(t *testing.T, d *disk.Disk, first, count int, from uint64) (*wal.Log, []wal.Rec) {
	t.Helper()
	l, recs, err := wal.Open(d, first, count, from)
	if l == nil || err != api.OK {
		t.Fatalf("Open(%d, %d, %d): got %v, %d", first, count, from, l, err)
	}
	return l, recs
}

func cutAndPower(d *disk.Disk, mask string) {
	d.Cut(mask)
	d.Power()
}

func wantMakeErr(t *testing.T, d *disk.Disk, first, count int, want api.Errno) {
	t.Helper()
	if l, err := wal.Make(d, first, count); l != nil || err != want {
		t.Errorf("Make(%d, %d): got %v, %d, want none, %d", first, count, l, err, want)
	}
}

func wantOpenErr(t *testing.T, d *disk.Disk, first, count int, want api.Errno) {
	t.Helper()
	for _, from := range []uint64{0, 1, 100, 1<<64 - 1} {
		if l, recs, err := wal.Open(d, first, count, from); l != nil || len(recs) != 0 || err != want {
			t.Errorf("Open(%d, %d, %d): got %v, %v, %d, want none, %d", first, count, from, l, recs, err, want)
		}
	}
}

func wantAppend(t *testing.T, l *wal.Log, want uint64, group ...string) {
	t.Helper()
	if at, err := l.Append(group); at != want || err != api.OK {
		t.Fatalf("Append(%.40q): got %d, %d, want %d", group, at, err, want)
	}
}

// wantAppendErr looks too that nothing has changed.
func wantAppendErr(t *testing.T, l *wal.Log, want api.Errno, group ...string) {
	t.Helper()
	from, next := l.From(), l.Next()
	if at, err := l.Append(group); at != 0 || err != want {
		t.Errorf("Append of %d texts: got %d, %d, want 0, %d", len(group), at, err, want)
	}
	wantEnds(t, l, from, next)
}

func wantSync(t *testing.T, l *wal.Log, want api.Errno) {
	t.Helper()
	if err := l.Sync(); err != want {
		t.Fatalf("Sync: got %d, want %d", err, want)
	}
}

func wantLet(t *testing.T, l *wal.Log, to uint64, want api.Errno) {
	t.Helper()
	from, next := l.From(), l.Next()
	if err := l.Let(to); err != want {
		t.Fatalf("Let(%d): got %d, want %d", to, err, want)
	}
	if want == api.OK {
		from = to
	}
	wantEnds(t, l, from, next)
}

func wantEnds(t *testing.T, l *wal.Log, from, next uint64) {
	t.Helper()
	if l.From() != from || l.Next() != next {
		t.Errorf("got From %d, Next %d, want %d, %d", l.From(), l.Next(), from, next)
	}
}

func sameRec(a, b wal.Rec) bool { return a.At == b.At && slices.Equal(a.Group, b.Group) }

func wantRecs(t *testing.T, got []wal.Rec, want ...wal.Rec) {
	t.Helper()
	if !slices.EqualFunc(got, want, sameRec) {
		t.Fatalf("got the records %s, want %s", tell(got), tell(want))
	}
}

// tell is short also where the texts are long.
func tell(recs []wal.Rec) string {
	var b strings.Builder
	for _, r := range recs {
		fmt.Fprintf(&b, "%d: %.12q; ", r.At, r.Group)
	}
	return b.String()
}

func rec(at uint64, group ...string) wal.Rec { return wal.Rec{At: at, Group: group} }

// wantOpen opens a log that has just these records, and may be appended to behind them.
func wantOpen(t *testing.T, d *disk.Disk, count int, from, next uint64, want ...wal.Rec) *wal.Log {
	t.Helper()
	l, recs := mustOpen(t, d, 0, count, from)
	wantRecs(t, recs, want...)
	wantEnds(t, l, from, next)
	return l
}

// groupOf are texts whose record has the length n, which is not 1.
func groupOf(n int, c byte) []string {
	var l []string
	for n > 0 {
		k := min(n, 257)
		if n-k == 1 {
			k--
		}
		l = append(l, strings.Repeat(string(rune(c)), k-2))
		n -= k
	}
	return l
}

func lengthOf(group []string) int { return len(strings.Join(group, "")) + 2*len(group) }

// blocks are all that a disk's blocks read as.
func blocks(t *testing.T, d *disk.Disk) [][]byte {
	t.Helper()
	var l [][]byte
	for i := range d.Blocks() {
		b, err := d.Read(i)
		if err != api.OK {
			t.Fatalf("Read(%d): got %d", i, err)
		}
		l = append(l, b)
	}
	return l
}
