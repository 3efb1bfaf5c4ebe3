package wal_test

import (
	"slices"
	"strings"
	"testing"

	"armoire/api"
	"armoire/wal"
)

// P7.2, P7.3: the document's own example.
func TestExample(t *testing.T) {
	d, l := newLog(t, 8)
	wantAppend(t, l, 0, "a", "b")
	wantAppend(t, l, 1)
	wantSync(t, l, api.OK)
	wantLet(t, l, 1, api.OK)
	wantAppend(t, l, 2, "c")
	cutAndPower(d, "")
	wantOpen(t, d, 8, 1, 2, rec(1))
}

// P7.3: lengths at both sides of 400 and its multiples, up to MaxRecord.
func TestLengths(t *testing.T) {
	const count = 64
	lengths := []int{0, 2, 3, 4, 257, 258, 259, 260, api.MaxRecord - 2, api.MaxRecord - 1, api.MaxRecord}
	for n := 400; n < api.MaxRecord; n += 400 {
		lengths = append(lengths, n-2, n-1, n, n+1, n+2, n+85, n+86, n+87, n+88, n+89, n+90, n+91)
	}
	for _, n := range lengths {
		group := groupOf(n, 'x')
		if lengthOf(group) != n {
			t.Fatalf("a group of the length %d, not %d", lengthOf(group), n)
		}
		d, l := newLog(t, count)
		wantAppend(t, l, 0, group...)
		took := l.Next()
		if took < 1 || took > uint64(n/400+1) {
			t.Errorf("the length %d: %d blocks", n, took)
		}
		wantAppend(t, l, took, "behind")
		wantOpen(t, d.Clone(), count, 0, took+1, rec(0, group...), rec(took, "behind"))
		wantSync(t, l, api.OK)
		cutAndPower(d, "")
		l = wantOpen(t, d, count, 0, took+1, rec(0, group...), rec(took, "behind"))
		wantLet(t, l, took, api.OK)
		wantOpen(t, d, count, took, took+1, rec(took, "behind"))
	}
}

// P7.3: few texts and many, empty ones, and each byte within them.
func TestTexts(t *testing.T) {
	var every strings.Builder
	for c := range 256 {
		every.WriteByte(byte(c))
	}
	many := make([]string, 255)
	full := slices.Clone(many)
	for i := range full {
		full[i] = strings.Repeat("y", 14)
	}
	full[254] += strings.Repeat("z", 16)
	groups := [][]string{nil, {}, {""}, {"", ""}, {"a"}, {"a", "", "b"}, {every.String()[1:]}, {every.String()[:255], "\xff"}, {strings.Repeat("\x00", 255)}, many, full}
	if lengthOf(full) != api.MaxRecord {
		t.Fatalf("the length %d", lengthOf(full))
	}
	for _, first := range groups {
		for _, second := range groups {
			d, l := newLog(t, 40)
			wantAppend(t, l, 0, first...)
			at := l.Next()
			wantAppend(t, l, at, second...)
			wantOpen(t, d, 40, 0, l.Next(), rec(0, first...), rec(at, second...))
		}
	}
}

// P7.3
func TestAppendErrLong(t *testing.T) {
	over := groupOf(api.MaxRecord+1, 'x')
	many := make([]string, 255)
	for i := range many {
		many[i] = strings.Repeat("y", 14)
	}
	many[0] += strings.Repeat("z", 17)
	for _, group := range [][]string{
		make([]string, 256), make([]string, 257), make([]string, 100000), {strings.Repeat("x", 256)}, {"a", strings.Repeat("x", 256), "b"},
		{strings.Repeat("x", 1<<20)}, over, many, append(groupOf(api.MaxRecord, 'x'), ""), slices.Repeat([]string{"texttext"}, 255+1),
	} {
		d, l := newLog(t, 30)
		wantAppendErr(t, l, api.ErrLong, group...)
		if len(d.Pending()) != 0 {
			t.Errorf("blocks were written: %v", d.Pending())
		}
		wantAppend(t, l, 0, "a")
		wantOpen(t, d, 30, 0, 1, rec(0, "a"))
	}
}

// P7.3: ErrLong comes ahead of ErrFull, ErrFull ahead of ErrDown.
func TestOrderOfErrors(t *testing.T) {
	d, l := newLog(t, 4)
	wantAppend(t, l, 0)
	wantAppend(t, l, 1)
	wantAppendErr(t, l, api.ErrLong, strings.Repeat("x", 256))
	wantAppendErr(t, l, api.ErrFull, "a")
	d.Cut("")
	wantAppendErr(t, l, api.ErrLong, strings.Repeat("x", 256))
	wantAppendErr(t, l, api.ErrFull, "a")
	wantLet(t, l, 1, api.OK)
	wantAppendErr(t, l, api.ErrDown, "a")
	wantSync(t, l, api.ErrDown)
	wantLet(t, l, 0, api.ErrArg)
	wantLet(t, l, 2, api.OK)
}

// P7.3: just count - 2 blocks, and one more; again behind a Let, round and round.
func TestRoom(t *testing.T) {
	for _, count := range []int{4, 5, 6, 11, 64} {
		d, l := newLog(t, count)
		for i := range uint64(count - 2) {
			wantAppend(t, l, i, "x")
		}
		for next := uint64(count - 2); next < uint64(5*count); next++ {
			wantAppendErr(t, l, api.ErrFull, "y")
			wantAppendErr(t, l, api.ErrFull)
			wantLet(t, l, l.From(), api.OK)
			wantAppendErr(t, l, api.ErrFull, "y")
			wantLet(t, l, l.From()+1, api.OK)
			wantAppend(t, l, next, "x")
		}
		want := make([]wal.Rec, count-2)
		for i := range want {
			want[i] = rec(l.From()+uint64(i), "x")
		}
		l = wantOpen(t, d, count, l.From(), l.Next(), want...)
		wantAppendErr(t, l, api.ErrFull, "y")
		wantLet(t, l, l.Next(), api.OK)
		for i := range uint64(count - 2) {
			wantAppend(t, l, l.From()+i, "z")
		}
		wantAppendErr(t, l, api.ErrFull, "y")
	}
}

// P7.3: as long as the records take no more than count - 2 blocks, n / 400 + 1 counted for one of the length n, there is room.
func TestRoomForLongOnes(t *testing.T) {
	for count := 4; count <= 40; count++ {
		for _, n := range []int{0, 399, 400, 401, 799, 800, 1199, 1200, 2000, 3999, 4000, api.MaxRecord} {
			d, l := newLog(t, count)
			for lap := range 3 {
				var want []wal.Rec
				for counted := n/400 + 1; counted <= count-2; counted += n/400 + 1 {
					group := groupOf(n, byte('a'+lap))
					want = append(want, rec(l.Next(), group...))
					wantAppend(t, l, l.Next(), group...)
				}
				l = wantOpen(t, d, count, l.From(), l.Next(), want...)
				wantLet(t, l, l.Next(), api.OK)
			}
		}
	}
}

// P7.3: more than count - 2 blocks are never taken, even by those of several.
func TestNoRoomForLongOnes(t *testing.T) {
	for count := 4; count <= 20; count++ {
		for _, n := range []int{0, 399, 400, 800, 2000, api.MaxRecord} {
			d, l := newLog(t, count)
			var want []wal.Rec
			for {
				at, err := l.Append(groupOf(n, 'x'))
				if err != api.OK {
					wantAppendErr(t, l, api.ErrFull, groupOf(n, 'y')...)
					break
				}
				want = append(want, rec(at, groupOf(n, 'x')...))
			}
			if took := l.Next() - l.From(); took > uint64(count-2) {
				t.Errorf("count %d, length %d: %d blocks are taken", count, n, took)
			}
			wantOpen(t, d, count, 0, l.Next(), want...)
		}
	}
}

// P7.3: Let to From, each record's number, Next, and to what is none.
func TestLet(t *testing.T) {
	lengths := []int{10, 1000, 0, 400, 4096, 5}
	var at []uint64
	start := func() *wal.Log {
		_, l := newLog(t, 40)
		at = nil
		for _, n := range lengths {
			at = append(at, l.Next())
			wantAppend(t, l, l.Next(), groupOf(n, 'x')...)
		}
		return l
	}
	next := start().Next()
	for to := range next + 3 {
		l := start()
		if !slices.Contains(at, to) && to != next {
			wantLet(t, l, to, api.ErrArg)
			continue
		}
		wantLet(t, l, to, api.OK)
		for before := range to {
			wantLet(t, l, before, api.ErrArg)
		}
		wantLet(t, l, to, api.OK)
		for _, behind := range at {
			if behind > to {
				wantLet(t, l, behind, api.OK)
			}
		}
		for _, far := range []uint64{next + 1, next + 40, 1 << 32, 1 << 63, 1<<64 - 1} {
			wantLet(t, l, far, api.ErrArg)
		}
		wantLet(t, l, next, api.OK)
		wantLet(t, l, next, api.OK)
		wantLet(t, l, at[0], api.ErrArg)
	}
}

// P7.3: nothing is written for Let, so a log is found again from each number that From was.
func TestOpenFromEachFrom(t *testing.T) {
	const count = 30
	d, l := newLog(t, count)
	var all []wal.Rec
	for i := range 9 {
		group := groupOf(150*i, byte('a'+i))
		all = append(all, rec(l.Next(), group...))
		wantAppend(t, l, l.Next(), group...)
	}
	writes := d.Writes()
	for _, r := range all {
		wantLet(t, l, r.At, api.OK)
	}
	if d.Writes() != writes {
		t.Errorf("Let: %d writes", d.Writes()-writes)
	}
	next := l.Next()
	for round := range 2 {
		for i := range all {
			k := i
			if round == 1 {
				k = len(all) - 1 - i
			}
			wantOpen(t, d, count, all[k].At, next, all[k:]...)
			wantOpen(t, d, count, next, next)
		}
	}
}

// P7.2: a log that was opened goes on as the one that was there would have.
func TestOpenGoesOn(t *testing.T) {
	const count = 10
	d, l := newLog(t, count)
	var want []wal.Rec
	for i := range 100 {
		group := groupOf(i%7*90, byte('a'+i%26))
		for len(want) > 0 && l.Next()-l.From() > 4 {
			want = want[1:]
			to := l.Next()
			if len(want) > 0 {
				to = want[0].At
			}
			wantLet(t, l, to, api.OK)
		}
		want = append(want, rec(l.Next(), group...))
		wantAppend(t, l, l.Next(), group...)
		l = wantOpen(t, d, count, l.From(), l.Next(), want...)
	}
}

// R4: what is handed in is neither changed nor kept, what is answered is new.
func TestMemory(t *testing.T) {
	d, l := newLog(t, 20)
	room := []string{"a", "b", "c", "spare"}
	wantAppend(t, l, 0, room[:2]...)
	wantAppend(t, l, 1, room[1:3]...)
	if !slices.Equal(room, []string{"a", "b", "c", "spare"}) {
		t.Errorf("the group was changed: %q", room)
	}
	room[0], room[1], room[2] = "x", "x", "x"
	want := []wal.Rec{rec(0, "a", "b"), rec(1, "b", "c")}
	l, recs := mustOpen(t, d, 0, 20, 0)
	wantRecs(t, recs, want...)
	for _, r := range recs {
		g := append(r.Group, "behind", "behind", "behind")
		g[0], g[1] = "spoilt", "spoilt"
		_ = append(r.Group, "behind")
	}
	for i := range recs {
		recs[i].Group[0], recs[i].Group[1] = "spoilt", "spoilt"
		recs[i].At = 99
	}
	_ = append(recs, rec(7))
	wantEnds(t, l, 0, 2)
	wantLet(t, l, 1, api.OK)
	wantOpen(t, d, 20, 0, 2, want...)
}

// R4: no two groups of one answer share spare room.
func TestGroupsShareNone(t *testing.T) {
	d, l := newLog(t, 20)
	var want []wal.Rec
	for i := range uint64(6) {
		group := slices.Repeat([]string{"t"}, int(i))
		wantAppend(t, l, i, group...)
		want = append(want, rec(i, group...))
	}
	_, recs := mustOpen(t, d, 0, 20, 0)
	for _, r := range recs {
		for range 4 {
			r.Group = append(r.Group, "spoilt")
		}
	}
	wantRecs(t, recs, want...)
}
