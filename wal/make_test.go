package wal_test

import (
	"math"
	"testing"

	"armoire/api"
	"armoire/disk"
	"armoire/wal"
)

// P7.1: with just as many blocks as the disk has, and with fewer.
func TestMake(t *testing.T) {
	for _, x := range []struct{ blocks, first, count int }{{4, 0, 4}, {5, 1, 4}, {40, 4, 30}, {192, 2, 64}, {192, 188, 4}, {1024, 0, 1024}, {1024, 1, 1023}} {
		d := newDisk(t, x.blocks)
		l := mustMake(t, d, x.first, x.count)
		if len(d.Pending()) != 0 {
			t.Errorf("%v: not safe: %v", x, d.Pending())
		}
		wantAppend(t, l, 0, "a")
		l, recs := mustOpen(t, d, x.first, x.count, 0)
		wantRecs(t, recs, rec(0, "a"))
		wantEnds(t, l, 0, 1)
	}
}

// P7.1, P7.2
func TestMakeAndOpenRefuse(t *testing.T) {
	wantMakeErr(t, nil, 0, 10, api.ErrArg)
	wantOpenErr(t, nil, 0, 10, api.ErrArg)
	d := newDisk(t, 20)
	bad := [][2]int{{-1, 10}, {0, 3}, {0, 0}, {0, -1}, {0, -10}, {20, 0}, {0, 21}, {1, 20}, {16, 5}, {17, 4}, {20, 4}, {21, 4}, {-1, 3}, {-4, 24}}
	for _, far := range []int{math.MinInt, math.MinInt + 1, math.MinInt32, math.MaxInt32, math.MaxInt - 4, math.MaxInt - 3, math.MaxInt - 1, math.MaxInt} {
		bad = append(bad, [2]int{far, 4}, [2]int{far, 20}, [2]int{0, far}, [2]int{4, far}, [2]int{far, far}, [2]int{far, -far})
	}
	for _, on := range []bool{true, false} {
		for _, x := range bad {
			wantMakeErr(t, d, x[0], x[1], api.ErrArg)
			wantOpenErr(t, d, x[0], x[1], api.ErrArg)
		}
		if on && d.Writes() != 0 {
			t.Errorf("%d writes were done", d.Writes())
		}
		d.Cut("")
	}
	// ErrArg comes ahead of ErrDown.
	wantMakeErr(t, d, 0, 20, api.ErrDown)
	wantOpenErr(t, d, 0, 20, api.ErrDown)
	wantMakeErr(t, d, 16, 4, api.ErrDown)
	wantOpenErr(t, d, 16, 4, api.ErrDown)
}

// P7.1: the power is cut at each write on the way, or at the barrier behind them.
func TestMakeIsCut(t *testing.T) {
	for _, mask := range masks {
		for n := 0; ; n++ {
			d, l := newLog(t, 12)
			wantAppend(t, l, 0, "old")
			wantSync(t, l, api.OK)
			d.Arm(n, mask)
			l, err := wal.Make(d, 2, 8)
			if err == api.OK {
				if n < 1 {
					t.Errorf("Make: nothing was written")
				}
				break
			}
			if l != nil || err != api.ErrDown || d.On() {
				t.Fatalf("Make cut at %d: got %v, %d", n, l, err)
			}
			d.Power()
			l = mustMake(t, d, 2, 8)
			wantAppend(t, l, 0, "new")
			cutAndPower(d, "\x01")
			_, recs := mustOpen(t, d, 2, 8, 0)
			wantRecs(t, recs, rec(0, "new"))
		}
	}
}

// P7.1: a Make of a disk that is new, cut on the way, leaves no record, whatever survives.
func TestNothingOfACutMake(t *testing.T) {
	for _, mask := range masks {
		for n := range 9 {
			d := newDisk(t, 8)
			d.Arm(n, mask)
			wantMakeErr(t, d, 0, 8, api.ErrDown)
			d.Power()
			wantOpen(t, d, 8, 0, 0)
		}
	}
}

// P7.1: Make over blocks that held records, also some that went round, and some that are not safe.
func TestMakeOverRecords(t *testing.T) {
	const count = 8
	for laps := range 4 {
		for _, mask := range masks {
			d, l := newLog(t, count)
			for i := range count*laps + 5 {
				wantAppend(t, l, uint64(i), "old")
				if i%3 == 0 {
					wantSync(t, l, api.OK)
				}
				if i > 3 {
					wantLet(t, l, uint64(i-3), api.OK)
				}
			}
			mustMake(t, d, 0, count)
			cutAndPower(d, mask)
			for from := range uint64(count * (laps + 2)) {
				if _, recs := mustOpen(t, d.Clone(), 0, count, from); len(recs) != 0 {
					t.Fatalf("from %d: got %v", from, recs)
				}
			}
		}
	}
}

// P7.1 to P7.3: whatever a log does, it writes its own blocks alone.
func TestItsOwnBlocksAlone(t *testing.T) {
	const first, count = 3, 6
	d := newDisk(t, 12)
	foreign := make([]byte, api.Block)
	for i := range foreign {
		foreign[i] = byte(i)
	}
	for i := range d.Blocks() {
		d.Write(i, foreign)
	}
	l := mustMake(t, d, first, count)
	for i := range uint64(4 * count) {
		wantAppend(t, l, i, "text")
		wantLet(t, l, i, api.OK)
	}
	wantSync(t, l, api.OK)
	wantAppend(t, l, 4*count, "lost")
	wantAppend(t, l, 4*count+1, "left over")
	cutAndPower(d, "\x00\x01")
	mustOpen(t, d, first, count, 4*count-1)
	for i, b := range blocks(t, d) {
		if same := string(b) == string(foreign); same != (i < first || i >= first+count) {
			t.Errorf("block %d: untouched: %v", i, same)
		}
	}
}

// P7.1: two logs on one disk, side by side, don't see each other.
func TestTwoLogs(t *testing.T) {
	d := newDisk(t, 9)
	a, b := mustMake(t, d, 0, 4), mustMake(t, d, 4, 5)
	for i := range uint64(20) {
		wantAppend(t, a, i, "a", string(rune('a'+i)))
		wantAppend(t, b, i, "b", string(rune('a'+i)))
		wantLet(t, a, i, api.OK)
		wantLet(t, b, i, api.OK)
	}
	_, recs := mustOpen(t, d, 0, 4, 19)
	wantRecs(t, recs, rec(19, "a", "t"))
	_, recs = mustOpen(t, d, 4, 5, 19)
	wantRecs(t, recs, rec(19, "b", "t"))
}

// R1: what stands on a disk that no log was made on is read without panic, whatever it is.
func TestOpenOfWhateverStandsThere(t *testing.T) {
	for c := range 256 {
		d := newDisk(t, 6)
		b := make([]byte, api.Block)
		for i := range b {
			b[i] = byte(c * i)
		}
		for i := range d.Blocks() {
			d.Write(i, b)
		}
		for _, from := range []uint64{0, 5, 1 << 63, 1<<64 - 1} {
			wantUsable(t, d.Clone(), 6, from)
		}
	}
}

// R1: a log that is opened from where none ever was is one all the same, also where numbers wrap round.
func TestOpenFromAnywhere(t *testing.T) {
	for _, count := range []int{4, 5, 7, 12} {
		d, l := newLog(t, count)
		for i := range uint64(3 * count) {
			wantAppend(t, l, i, "x")
			wantLet(t, l, i, api.OK)
		}
		for from := range uint64(4 * count) {
			wantUsable(t, d.Clone(), count, from)
		}
		for k := range uint64(3 * count) {
			wantUsable(t, d.Clone(), count, -k)
			wantUsable(t, d.Clone(), count, 1<<63-k)
			wantUsable(t, d.Clone(), count, 1<<32-k)
		}
	}
}

// P7.2: a number within a record is no record's: nothing of it is told, but what is behind it.
func TestOpenWithinARecord(t *testing.T) {
	d, l := newLog(t, 12)
	wantAppend(t, l, 0, groupOf(1200, 'x')...)
	wantAppend(t, l, 3, "y")
	for from := uint64(1); from < 3; from++ {
		o, recs := mustOpen(t, d.Clone(), 0, 12, from)
		wantRecs(t, recs, rec(3, "y"))
		wantEnds(t, o, 3, 4)
	}
}

// wantUsable calls all that may be called, several times; nothing is said of what it answers.
func wantUsable(t *testing.T, d *disk.Disk, count int, from uint64) {
	t.Helper()
	for range 3 {
		l, _ := mustOpen(t, d, 0, count, from)
		for i := range 2 * count {
			if _, err := l.Append(groupOf(300*(i%4), 'u')); err != api.OK && err != api.ErrFull {
				t.Fatalf("Append: got %d", err)
			}
			if i%3 == 2 {
				l.Let(l.From())
				l.Let(l.Next())
			}
			if i%5 == 1 {
				mustOpen(t, d.Clone(), 0, count, from)
				mustOpen(t, d.Clone(), 0, count, l.From())
			}
		}
		wantSync(t, l, api.OK)
	}
}
