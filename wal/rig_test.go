package wal_test

import (
	"math/rand"
	"slices"
	"strconv"
	"testing"

	"armoire/api"
	"armoire/disk"
	"armoire/wal"
)

// rig is a log, and what the document says of its records, in the plainest form.
type rig struct {
	count int
	d     *disk.Disk
	l     *wal.Log
	recs  []known  // all that may still be told
	froms []uint64 // what From was
	floor uint64   // from a number below it on something was overwritten
	life  int      // how often the log was opened
	cut   bool     // since then
	made  int      // records so far: no two have the same texts
}

// known is a record that was appended.
type known struct {
	wal.Rec
	end  uint64
	life int
	safe bool
}

func newRig(t *testing.T, count int) *rig {
	t.Helper()
	d, l := newLog(t, count)
	return &rig{count: count, d: d, l: l, froms: []uint64{0}}
}

// append appends a record of about that length. One that was cut on the way is none, but its blocks may be written.
func (g *rig) append(t *testing.T, length int) api.Errno {
	t.Helper()
	g.made++
	group := slices.Concat([]string{"r" + strconv.Itoa(g.made)}, groupOf(length, byte('a'+g.made%26)))
	n := lengthOf(group)
	next, from := g.l.Next(), g.l.From()
	at, err := g.l.Append(group)
	switch err {
	case api.OK:
		if took := g.l.Next() - at; at != next || g.l.From() != from || took < 1 || took > uint64(n/400+1) {
			t.Fatalf("Append: got %d for %d, Next %d", at, next, g.l.Next())
		}
		g.recs = append(g.recs, known{Rec: rec(at, group...), end: g.l.Next(), life: g.life})
		g.overwrite(0)
	case api.ErrFull:
		if g.counted()+n/400+1 <= g.count-2 {
			t.Fatalf("Append of the length %d: ErrFull, with %d blocks of %d", n, g.counted(), g.count)
		}
	case api.ErrDown:
		g.overwrite(n/400 + 1)
	default:
		t.Fatalf("Append: got %d", err)
	}
	return err
}

// overwrite forgets the eldest records, as far as the ring is too small for them and so many blocks more.
func (g *rig) overwrite(blocks int) {
	for i, r := range slices.Backward(g.recs) {
		blocks += int(r.end - r.At)
		if blocks > g.count {
			g.floor = r.At + 1
			g.recs = g.recs[i+1:]
			return
		}
	}
}

// counted are the blocks of the records that are there, as the document counts them.
func (g *rig) counted() int {
	n := 0
	for _, r := range g.recs {
		if r.At >= g.l.From() {
			n += lengthOf(r.Group)/400 + 1
		}
	}
	return n
}

func (g *rig) sync(t *testing.T) api.Errno {
	t.Helper()
	err := g.l.Sync()
	if err == api.OK {
		g.allSafe()
	} else if err != api.ErrDown {
		t.Fatalf("Sync: got %d", err)
	}
	return err
}

// allSafe says nothing of what was perhaps lost ahead of the last Open.
func (g *rig) allSafe() {
	for i := range g.recs {
		if g.recs[i].life == g.life {
			g.recs[i].safe = true
		}
	}
}

// let lets the first k records go.
func (g *rig) let(t *testing.T, k int) {
	t.Helper()
	to := g.l.Next()
	if first := g.firstFrom(g.l.From()); first+k < len(g.recs) {
		to = g.recs[first+k].At
	}
	wantLet(t, g.l, to, api.OK)
	g.froms = append(g.froms, to)
}

// valid are the numbers that the log may be opened from: nothing behind them was overwritten.
func (g *rig) valid() []uint64 {
	list := slices.DeleteFunc(slices.Clone(g.froms), func(from uint64) bool { return from < g.floor })
	slices.Sort(list)
	return slices.Compact(list)
}

func (g *rig) firstFrom(from uint64) int {
	i, _ := slices.BinarySearchFunc(g.recs, from, func(r known, at uint64) int { return int(int64(r.At - at)) })
	return i
}

// open opens the log and holds what it tells against the document.
func (g *rig) open(t *testing.T, from uint64) {
	t.Helper()
	if !g.cut {
		g.allSafe()
	}
	l, told := mustOpen(t, g.d, 0, g.count, from)
	first := g.firstFrom(from)
	kept := g.heldAgainst(t, from, g.recs[first:], told)
	wantFrom, wantNext := from, from
	if len(kept) > 0 {
		wantFrom, wantNext = kept[0].At, kept[len(kept)-1].end
	}
	if len(kept) == 0 && first > 0 && g.recs[first-1].end > from {
		// It is a record's no more, but was one's that was lost.
		wantFrom, wantNext = l.Next(), l.Next()
	}
	wantEnds(t, l, wantFrom, wantNext)
	if l.Next() < from {
		t.Fatalf("from %d: Next %d", from, l.Next())
	}
	g.l, g.recs = l, slices.Concat(g.recs[:first], kept)
	g.froms = append(g.froms, from, l.From())
	g.life++
	g.cut = false
}

// heldAgainst is what was told. All that are safe must be; of those that were appended behind them the first ones may be, and no others.
func (g *rig) heldAgainst(t *testing.T, from uint64, recs []known, told []wal.Rec) []known {
	t.Helper()
	var kept []known
	missing := -1 // in this life one that was appended was not told
	for _, r := range recs {
		if is := len(kept) < len(told) && sameRec(told[len(kept)], r.Rec); !is {
			if r.safe {
				t.Fatalf("from %d: told %s, not %d, which is safe", from, tell(told), r.At)
			}
			missing = r.life
			continue
		}
		if missing == r.life && !r.safe {
			t.Fatalf("from %d: told %s, %d too, but not all ahead of it", from, tell(told), r.At)
		}
		r.safe = true
		kept = append(kept, r)
	}
	if len(kept) != len(told) {
		t.Fatalf("from %d: told %s, %d of them are known", from, tell(told), len(kept))
	}
	return kept
}

// power cuts the power and has it on again.
func (g *rig) power(mask string) {
	g.d.Arm(-1, "")
	cutAndPower(g.d, mask)
	g.cut = true
}

// cutOpen opens the log while the disk is armed; it tells whether the power was cut.
func (g *rig) cutOpen(t *testing.T, from uint64, n int, mask string) bool {
	t.Helper()
	d := g.d.Clone()
	d.Arm(n, mask)
	l, told, err := wal.Open(d, 0, g.count, from)
	if err == api.OK {
		return false
	}
	if err != api.ErrDown || l != nil || len(told) != 0 || d.On() {
		t.Fatalf("Open cut at %d: got %v, %v, %d", n, l, told, err)
	}
	d.Power()
	g.d = d
	g.cut = true
	return true
}

// clone has no log: it must be opened first.
func (g *rig) clone() *rig {
	c := *g
	c.d = g.d.Clone()
	c.recs, c.froms = slices.Clone(g.recs), slices.Clone(g.froms)
	return &c
}

func randomMask(r *rand.Rand) string {
	if r.Intn(2) == 0 {
		return masks[r.Intn(len(masks))]
	}
	b := make([]byte, 40)
	r.Read(b)
	return string(b)
}
