package wal_test

import (
	"math/rand"
	"slices"
	"strconv"
	"testing"

	"armoire/api"
	"armoire/disk"
	"armoire/wal"
)

// rig is a log, and what the document says of its records, in the plainest form.
type rig struct {
	count int
	d     *disk.Disk
	l     *wal.Log
	recs  []wal.Rec // all since Make that may still be told
	safe  int       // how many of recs surely are
	froms []uint64  // what From was
	end   uint64    // behind all that was written
	made  int       // records so far: no two have the same texts
}

func newRig(t *testing.T, count int) *rig {
	t.Helper()
	d, l := newLog(t, count)
	return &rig{count: count, d: d, l: l, froms: []uint64{0}}
}

// append appends a record of about that length. One that was cut on the way is none, but its blocks may be written.
func (g *rig) append(t *testing.T, length int) api.Errno {
	t.Helper()
	g.made++
	group := slices.Concat([]string{"r" + strconv.Itoa(g.made)}, groupOf(length, byte('a'+g.made%26)))
	n := lengthOf(group)
	next, from := g.l.Next(), g.l.From()
	at, err := g.l.Append(group)
	switch err {
	case api.OK:
		if took := g.l.Next() - at; at != next || g.l.From() != from || took < 1 || took > uint64(n/400+1) {
			t.Fatalf("Append: got %d for %d, Next %d", at, next, g.l.Next())
		}
		g.recs = append(g.recs, rec(at, group...))
		g.end = max(g.end, g.l.Next())
	case api.ErrFull:
		if g.counted()+n/400+1 <= g.count-2 {
			t.Fatalf("Append of the length %d: ErrFull, with %d blocks of %d", n, g.counted(), g.count)
		}
	case api.ErrDown:
		g.end = max(g.end, next+uint64(n/400+1))
	default:
		t.Fatalf("Append: got %d", err)
	}
	return err
}

// counted are the blocks of the records that are there, as the document counts them.
func (g *rig) counted() int {
	n := 0
	for _, r := range g.recs {
		if r.At >= g.l.From() {
			n += lengthOf(r.Group)/400 + 1
		}
	}
	return n
}

func (g *rig) sync(t *testing.T) api.Errno {
	t.Helper()
	err := g.l.Sync()
	if err == api.OK {
		g.safe = len(g.recs)
	} else if err != api.ErrDown {
		t.Fatalf("Sync: got %d", err)
	}
	return err
}

// let lets the first k records go.
func (g *rig) let(t *testing.T, k int) {
	t.Helper()
	there := slices.DeleteFunc(slices.Clone(g.recs), func(r wal.Rec) bool { return r.At < g.l.From() })
	to := g.l.Next()
	if k < len(there) {
		to = there[k].At
	}
	wantLet(t, g.l, to, api.OK)
	g.froms = append(g.froms, to)
}

// valid are the numbers that the log may be opened from: nothing behind them was overwritten.
func (g *rig) valid() []uint64 {
	return slices.DeleteFunc(slices.Clone(g.froms), func(from uint64) bool { return from+uint64(g.count) < g.end })
}

func (g *rig) firstFrom(from uint64) int {
	i, _ := slices.BinarySearchFunc(g.recs, from, func(r wal.Rec, at uint64) int { return int(int64(r.At - at)) })
	return i
}

// open opens the log and holds what it tells against the document.
func (g *rig) open(t *testing.T, from uint64) {
	t.Helper()
	l, told := mustOpen(t, g.d, 0, g.count, from)
	first := g.firstFrom(from)
	least, most := max(g.safe-first, 0), len(g.recs)-first
	if len(told) < least || len(told) > most {
		t.Fatalf("from %d: told %s, want %d to %d of %s", from, tell(told), least, most, tell(g.recs))
	}
	wantRecs(t, told, g.recs[first:first+len(told)]...)
	next := from
	if len(told) > 0 {
		next = g.l.Next()
		if len(told) < most {
			next = g.recs[first+len(told)].At
		}
	}
	if len(told) == 0 && most > 0 {
		next = g.recs[first].At
	}
	wantEnds(t, l, from, next)
	if first > g.safe {
		g.froms = slices.DeleteFunc(g.froms, func(f uint64) bool { return f < from })
	}
	g.l, g.recs = l, g.recs[:first+len(told)]
	g.safe = len(g.recs)
	g.froms = slices.DeleteFunc(append(g.froms, from), func(f uint64) bool { return f > next })
}

// cutOpen opens the log while the disk is armed; it tells whether the power was cut.
func (g *rig) cutOpen(t *testing.T, from uint64, n int, mask string) bool {
	t.Helper()
	d := g.d.Clone()
	d.Arm(n, mask)
	l, told, err := wal.Open(d, 0, g.count, from)
	if err == api.OK {
		return false
	}
	if err != api.ErrDown || l != nil || len(told) != 0 || d.On() {
		t.Fatalf("Open cut at %d: got %v, %v, %d", n, l, told, err)
	}
	d.Power()
	g.d = d
	return true
}

// clone has no log: it must be opened first.
func (g *rig) clone() *rig {
	c := *g
	c.d = g.d.Clone()
	c.recs, c.froms = slices.Clone(g.recs), slices.Clone(g.froms)
	return &c
}

func randomMask(r *rand.Rand) string {
	if r.Intn(2) == 0 {
		return masks[r.Intn(len(masks))]
	}
	b := make([]byte, 40)
	r.Read(b)
	return string(b)
}
