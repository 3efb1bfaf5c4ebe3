package trunk_test

import (
	"slices"
	"strings"
	"testing"

	"armoire/api"
	"armoire/trunk"
)

// P11.3: each commit is the next version, and safe.
func TestCommit(t *testing.T) {
	d, x := newTrunk(t, 1024, pairs(1)...)
	want := look(t, x)
	for i, l := range [][]trunk.Step{
		{put(1, "a")},
		nil,
		{put(1, "a")},
		{put(1, "b"), put(2, "c"), put(3, "")},
		{put(4, "1"), put(4, "2"), gone(4), put(4, "3")},
		{put(5, "1"), gone(5)},
		{gone(5)},
		{gone(99), gone(99), put(99, "x"), gone(99)},
		{put(6, strings.Repeat("x", 34))},
		{gone(0), gone(1), gone(2), gone(3), gone(4), gone(6)},
		{gone(1)},
		{put(7, "again")},
	} {
		next := uint32(i * 1000000000)
		mustCommit(t, x, next, l...)
		want = want.behind(l, next)
		wantSeen(t, x, want)
		if len(d.Pending()) > 0 {
			t.Errorf("pending: %v", d.Pending())
		}
		c := d.Clone()
		cutAndPower(c, "")
		wantSeen(t, mustOpen(t, c), want)
	}
}

// P11.3: a commit that empties the tree, and one behind it; both last.
func TestCommitEmpty(t *testing.T) {
	d, x := newTrunk(t, 192, pairs(1)...)
	mustCommit(t, x, 3, gone(0))
	if x.Items() != 0 || len(read(t, x, x.Root())) != 0 || len(mustSpace(t, x).Trunk) != 0 {
		t.Errorf("got %v", look(t, x))
	}
	want := look(t, x)
	cutAndPower(d, "")
	x = mustOpen(t, d)
	wantSeen(t, x, want)
	mustCommit(t, x, 3, put(4, "v"))
	if x.Items() != 1 || x.Version() != 2 {
		t.Errorf("got %v", look(t, x))
	}
}

// P11.3: keys and values may have any bytes.
func TestCommitBytes(t *testing.T) {
	d, x := newTrunk(t, 192)
	low, high := strings.Repeat("\x00", 14), strings.Repeat("\xff", 14)
	l := []trunk.Step{{Key: high, Value: high + high}, {Key: low, Value: low}, {Key: "+-+-+-+-+-+-+-", Value: "-"}}
	mustCommit(t, x, 1, l...)
	want := seen{pairs: map[string]string{}}.behind(l, 1)
	wantSeen(t, x, want)
	cutAndPower(d, "")
	wantSeen(t, mustOpen(t, d), want)
}

// P11.3: as many steps as there may be, with the longest values, and one more.
func TestCommitMost(t *testing.T) {
	d, x := newTrunk(t, 1024, pairs(1)...)
	l := puts(0, 64, strings.Repeat("x", 34))
	want := look(t, x).behind(l, 1)
	wantCommitErr(t, x, append(l, put(1, "")), api.ErrArg)
	mustCommit(t, x, 1, l...)
	cutAndPower(d, "")
	x = mustOpen(t, d)
	wantSeen(t, x, want)
	l = l[:0:0]
	for n := range 64 {
		l = append(l, gone(n))
	}
	mustCommit(t, x, 2, l...)
	wantSeen(t, x, want.behind(l, 2))
}

// P11.3: wrong inputs, wherever they stand, ahead of a power that is off.
func TestCommitArg(t *testing.T) {
	d, x := newTrunk(t, 1024, pairs(5)...)
	for _, on := range []bool{true, false} {
		if !on {
			d.Cut("")
		}
		for _, wrong := range []trunk.Step{
			{},
			{Gone: true},
			{Key: key(1)[:13], Value: "v"},
			{Key: key(1) + "0", Value: "v"},
			{Key: key(1)[:13], Gone: true},
			{Key: key(1), Value: strings.Repeat("x", 35)},
			{Key: key(1), Value: "x", Gone: true},
			{Key: key(1), Value: strings.Repeat("x", 35), Gone: true},
		} {
			wantCommitErr(t, x, []trunk.Step{wrong}, api.ErrArg)
			wantCommitErr(t, x, []trunk.Step{wrong, put(1, "a"), put(2, "b")}, api.ErrArg)
			wantCommitErr(t, x, []trunk.Step{put(1, "a"), put(2, "b"), wrong}, api.ErrArg)
		}
		wantCommitErr(t, x, make([]trunk.Step, 65), api.ErrArg)
		wantCommitErr(t, x, puts(0, 65, "v"), api.ErrArg)
		wantCommitErr(t, x, puts(0, 1000, "v"), api.ErrArg)
	}
}

// P11.3: a power that is off is told ahead of too little room; when it is on again, there is the trunk as it was.
func TestCommitDown(t *testing.T) {
	d, x := newTrunk(t, 192, pairs(1)...)
	mustCommit(t, x, 3, puts(0, 5, "v")...)
	want := look(t, x)
	d.Cut("")
	wantCommitErr(t, x, nil, api.ErrDown)
	wantCommitErr(t, x, puts(0, 2, "w"), api.ErrDown)
	wantCommitErr(t, x, puts(0, 64, "w"), api.ErrDown)
	d.Power()
	wantSeen(t, x, want)
	mustCommit(t, x, 4, put(1, "w"))
	want = look(t, x)
	cutAndPower(d, "")
	wantSeen(t, mustOpen(t, d), want)
}

// P11.3: there is room by the document's count, and not a step more: of one commit.
func TestCommitRoom(t *testing.T) {
	for _, c := range []struct{ blocks, items, most int }{{192, 1, 10}, {192, 0, 10}, {195, 3, 10}, {196, 3, 11}, {196, 4, 10}, {197, 4, 11}, {725, 0, 63}, {726, 0, 64}, {1024, 10, 64}} {
		_, x := newTrunk(t, c.blocks, pairs(c.items)...)
		if c.most < 64 {
			wantCommitErr(t, x, puts(20, c.most+1, "v"), api.ErrFull)
		}
		mustCommit(t, x, 3, puts(20, c.most, "v")...)
	}
}

// P11.3: what was changed is counted by steps, also of those that change nothing, from the last Reclaim on.
func TestCommitChanged(t *testing.T) {
	_, x := newTrunk(t, 192, pairs(1)...)
	// 86 blocks, and 106 for changes.
	for range 7 {
		mustCommit(t, x, 3, gone(5))
	}
	mustCommit(t, x, 3, put(0, "a"), put(0, "b")) // 86 + 63 + 20
	mustCommit(t, x, 3, gone(5))                  // 86 + 81 + 10
	mustCommit(t, x, 3, gone(5))                  // 86 + 90 + 10
	wantCommitErr(t, x, []trunk.Step{gone(5)}, api.ErrFull)
	mustCommit(t, x, 4)
	mustReclaim(t, x)
	mustCommit(t, x, 4, puts(0, 10, "v")...)
	wantCommitErr(t, x, []trunk.Step{gone(5), gone(5)}, api.ErrFull)
}

// P11.3: behind an elder root that is kept all counts; when it is kept no more, only what is behind the next one.
func TestCommitChangedKept(t *testing.T) {
	_, x := newTrunk(t, 192, pairs(1)...)
	first := x.Root()
	mustCommit(t, x, 3, put(0, "a"), put(0, "b"), put(0, "c"))
	second := x.Root()
	mustCommit(t, x, 3, put(0, "d"), put(0, "e"))
	mustReclaim(t, x, second, first) // 86 + 45
	wantCommitErr(t, x, puts(0, 7, "v"), api.ErrFull)
	mustReclaim(t, x, second) // 86 + 18
	wantCommitErr(t, x, puts(0, 9, "v"), api.ErrFull)
	mustCommit(t, x, 3, puts(0, 8, "v")...)
}

// P11.3: of several versions with one root the last one counts: what changed nothing behind an elder one is not counted.
func TestCommitChangedOneRoot(t *testing.T) {
	_, x := newTrunk(t, 192, pairs(1)...)
	first := x.Root()
	for range 4 {
		mustCommit(t, x, 3, gone(5))
	}
	mustCommit(t, x, 3, put(0, "a"))
	mustReclaim(t, x, first) // 86 + 9: of five steps one is counted
	mustCommit(t, x, 3, puts(0, 9, "v")...)

	_, x = newTrunk(t, 192)
	mustCommit(t, x, 3, put(0, "a"), put(1, "a"))
	mustCommit(t, x, 3, gone(0), gone(1))
	mustCommit(t, x, 3, put(0, "a"))
	mustReclaim(t, x, 0) // 86 + 9: the empty tree was there twice
	mustCommit(t, x, 3, puts(0, 9, "v")...)
}

// P11.3: with ErrFull nothing has changed, neither here nor on the disk.
func TestCommitFull(t *testing.T) {
	d, x := newTrunk(t, 192, pairs(10)...)
	mustCommit(t, x, 3, puts(10, 8, "v")...)
	want, space, writes := look(t, x), mustSpace(t, x), d.Writes()
	wantCommitErr(t, x, puts(0, 4, "w"), api.ErrFull)
	wantCommitErr(t, x, puts(0, 64, "w"), api.ErrFull)
	wantSeen(t, x, want)
	if s := mustSpace(t, x); !slices.Equal(s.Free, space.Free) || d.Writes() != writes {
		t.Errorf("got %v, want %v", s, space)
	}
	cutAndPower(d, "")
	wantSeen(t, mustOpen(t, d), want)
}

// P11.3: a log is full in the midst of many commits, which all last, and elder roots stay there.
func TestCommitLogFull(t *testing.T) {
	for _, steps := range []int{0, 1, 5} {
		d, x := newTrunk(t, 1024, pairs(5)...)
		first, want := x.Root(), look(t, x)
		elder := read(t, x, first)
		for i := range 100 / max(steps, 1) * (1 + 3*count(steps == 0)) {
			l := puts(i%9, steps, strings.Repeat("x", i%35))
			mustCommit(t, x, uint32(i), l...)
			want = want.behind(l, uint32(i))
			c := d.Clone()
			cutAndPower(c, "")
			wantSeen(t, mustOpen(t, c), want)
		}
		wantSeen(t, x, want)
		if got := read(t, x, first); len(got) != len(elder) || got[key(0)] != "v" {
			t.Errorf("the first root: got %v", got)
		}
	}
}

// P11.3: large records fill the log soon.
func TestCommitLogFullOfLarge(t *testing.T) {
	d, x := newTrunk(t, 1024)
	want := look(t, x)
	for i := range 40 {
		l := puts(i, 64, strings.Repeat("y", 34))
		mustCommit(t, x, 9, l...)
		want = want.behind(l, 9)
		cutAndPower(d, "")
		if i%3 == 0 {
			x = mustOpen(t, d)
		} else {
			mustReclaim(t, x)
		}
		wantSeen(t, x, want)
	}
}

// R4: the steps that are handed in are neither changed nor kept, nor the room behind them.
func TestCommitMemory(t *testing.T) {
	_, x := newTrunk(t, 192)
	l := append(make([]trunk.Step, 0, 5), put(3, "a"), put(1, "b"), gone(3))
	copies := slices.Clone(l[:5])
	mustCommit(t, x, 2, l...)
	if !slices.Equal(l[:5], copies) {
		t.Errorf("the list was changed: %v", l[:5])
	}
	want := look(t, x)
	clear(l[:5])
	wantSeen(t, x, want)
}

func count(is bool) int {
	if is {
		return 1
	}
	return 0
}
