package wal_test

import (
	"math/rand"
	"testing"

	"armoire/api"
	"armoire/wal"
)

// move is one step of a row: a record of about that length, or, below 0, something else.
type move int

const (
	sync   move = -1
	letOne move = -2
	letAll move = -3
)

// rows go round a ring of 10 blocks, with records of one block and of several.
var rows = [][]move{
	{0, 0, sync, 0, 0, 0},
	{0, 500, 900, sync, 700, 0},
	{1200, sync, 0, letOne, 0, 1500, sync, letOne, 0, letOne, 2000, 0, 0},
	{0, letOne, 0, letAll, 900, 0, sync, letAll, 0, 0, 900, letOne, letOne, 500, sync, 0, 1000, letAll, 0},
	{2000, sync, letAll, 2000, letAll, sync, 2000, 0, sync, letOne, 0, 0, letAll, 2500, 0},
	{sync, sync, 0, sync, sync, 480, sync, letOne, sync, 490},
}

// run goes on until the power is cut, also where there is too little room; it tells whether it was cut.
func (g *rig) run(t *testing.T, row []move) bool {
	t.Helper()
	for _, m := range row {
		err := api.OK
		switch m {
		case sync:
			err = g.sync(t)
		case letOne:
			g.let(t, 1)
		case letAll:
			g.let(t, 1000)
		default:
			err = g.append(t, int(m))
		}
		if err == api.ErrDown {
			if g.d.On() {
				t.Fatalf("ErrDown, and the power is on")
			}
			return true
		}
	}
	return false
}

// cutAt is a rig whose power was cut n writes on in the row, or else at its end, and is on again.
func cutAt(t *testing.T, row []move, n int, mask string) (*rig, bool) {
	t.Helper()
	g := newRig(t, 10)
	g.d.Arm(n, mask)
	cut := g.run(t, row)
	g.power(mask)
	return g, cut
}

// P7.4, P7.2: a cut at each write of a row, and at each Sync; then the log is opened from each number that From was, and from each other one behind that.
func TestCutAnywhere(t *testing.T) {
	for _, row := range rows {
		for _, mask := range masks {
			for n := 0; ; n++ {
				g, cut := cutAt(t, row, n, mask)
				for _, from := range g.valid() {
					c := g.clone()
					c.open(t, from)
					for _, other := range g.valid() {
						c.open(t, other)
						c.open(t, from)
					}
				}
				if !cut {
					break
				}
			}
		}
	}
}

// P7.4, P7.2: behind that, a cut at each write of Open; what is told then is what is told ever after.
func TestCutWhileItIsOpened(t *testing.T) {
	cuts := 0
	for _, row := range rows {
		for _, mask := range masks {
			for n := 0; ; n++ {
				g, cut := cutAt(t, row, n, mask)
				for _, second := range masks {
					for k := 0; ; k++ {
						c := g.clone()
						from := c.l.From()
						if !c.cutOpen(t, from, k, second) {
							break
						}
						cuts++
						c.cutOpen(t, from, 1, mask)
						c.open(t, from)
						c.run(t, []move{0})
						c.power(mask)
						c.open(t, from)
					}
				}
				if !cut {
					break
				}
			}
		}
	}
	if cuts == 0 {
		t.Errorf("Open never was cut")
	}
}

// P7.4, P7.2: behind a cut the log goes on, and is cut again at each write: nothing that was lost comes back.
func TestNothingComesBack(t *testing.T) {
	for _, row := range rows {
		for _, mask := range masks {
			for n := range 12 {
				g, _ := cutAt(t, row, n, mask)
				from := g.l.From()
				for _, second := range []string{"", masks[1], masks[2]} {
					for k := range 8 {
						c := g.clone()
						c.open(t, from)
						c.let(t, 1)
						c.d.Arm(k, second)
						c.run(t, []move{0, 600, sync, letOne, 0, 0})
						c.power(second)
						c.open(t, c.l.From())
						c.run(t, []move{letAll, 500, 0, 0, sync})
						c.power("")
						c.open(t, c.l.From())
					}
				}
			}
		}
	}
}

// P7.4: a record that is only partly there is not told, nor what stands behind it, and that is overwritten, and safe.
func TestAHole(t *testing.T) {
	const count = 12
	for lost := range 5 {
		d, l := newLog(t, count)
		wantAppend(t, l, 0, "safe")
		wantSync(t, l, api.OK)
		wantAppend(t, l, 1, groupOf(1200, 'l')...)
		wantAppend(t, l, 4, "x")
		wantAppend(t, l, 5, "y")
		mask := []byte{1, 1, 1, 1, 1}
		mask[lost] = 0
		cutAndPower(d, string(mask))
		long := rec(1, groupOf(1200, 'l')...)
		switch {
		case lost < 3:
			l = wantOpen(t, d, count, 0, 1, rec(0, "safe"))
		case lost == 3:
			l = wantOpen(t, d, count, 0, 4, rec(0, "safe"), long)
		default:
			l = wantOpen(t, d, count, 0, 5, rec(0, "safe"), long, rec(4, "x"))
		}
		if len(d.Pending()) != 0 {
			t.Errorf("not safe: %v", d.Pending())
		}
		// All that may have been left there would now follow.
		if lost < 3 {
			wantAppend(t, l, 1, groupOf(1200, 'm')...)
			wantOpen(t, d.Clone(), count, 0, 4, rec(0, "safe"), rec(1, groupOf(1200, 'm')...))
			cutAndPower(d, "\x01\x00\x00")
			wantOpen(t, d, count, 0, 1, rec(0, "safe"))
		}
	}
}

// P7.4: Sync makes safe what an Open that was not behind a cut has told, and what was appended since.
func TestOpenWithoutACut(t *testing.T) {
	d, l := newLog(t, 8)
	wantAppend(t, l, 0, "a")
	l = wantOpen(t, d, 8, 0, 1, rec(0, "a"))
	wantAppend(t, l, 1, "b")
	wantSync(t, l, api.OK)
	wantAppend(t, l, 2, "c")
	cutAndPower(d, "")
	wantOpen(t, d, 8, 0, 2, rec(0, "a"), rec(1, "b"))
}

// P7.4: what was let go ahead of its being safe, and was lost, takes nothing along that was appended and made safe behind the cut.
func TestLetGoAndLost(t *testing.T) {
	const count = 8
	d, l := newLog(t, count)
	wantAppend(t, l, 0, "safe")
	wantSync(t, l, api.OK)
	wantAppend(t, l, 1, "lost")
	wantAppend(t, l, 2, "left over")
	wantLet(t, l, 3, api.OK)
	cutAndPower(d, "\x00\x01")
	l = wantOpen(t, d, count, 3, 3)
	wantAppend(t, l, 3, "new")
	wantAppend(t, l, 4, "newer")
	wantSync(t, l, api.OK)
	wantAppend(t, l, 5, "lost")
	wantAppend(t, l, 6, "left over")
	cutAndPower(d, "\x00\x01")
	for range 2 {
		l = wantOpen(t, d, count, 0, 5, rec(0, "safe"), rec(3, "new"), rec(4, "newer"))
	}
	// Three more take six blocks with those.
	wantAppend(t, l, 5, "a")
	wantAppend(t, l, 6, "b")
	wantAppend(t, l, 7, "c")
	wantAppendErr(t, l, api.ErrFull, "d")
	wantSync(t, l, api.OK)
	cutAndPower(d, "")
	wantOpen(t, d, count, 0, 8, rec(0, "safe"), rec(3, "new"), rec(4, "newer"), rec(5, "a"), rec(6, "b"), rec(7, "c"))
	wantOpen(t, d, count, 3, 8, rec(3, "new"), rec(4, "newer"), rec(5, "a"), rec(6, "b"), rec(7, "c"))
}

// P7.4: the same, several times, and where nothing at all was told from the elder number on.
func TestLetGoAndLostAgain(t *testing.T) {
	const count = 12
	d, l := newLog(t, count)
	var want []uint64
	for i := range uint64(3) {
		wantAppend(t, l, 2*i, "lost")
		wantLet(t, l, 2*i+1, api.OK)
		cutAndPower(d, "")
		l = wantOpen(t, d, count, 2*i+1, 2*i+1)
		wantAppend(t, l, 2*i+1, "kept")
		wantSync(t, l, api.OK)
		want = append(want, 2*i+1)
		c := d.Clone()
		cutAndPower(c, "")
		o, recs := mustOpen(t, c, 0, count, 0)
		if len(recs) != len(want) {
			t.Fatalf("got %s, want %v", tell(recs), want)
		}
		for k, at := range want {
			wantRecs(t, recs[k:k+1], rec(at, "kept"))
		}
		wantEnds(t, o, 1, 2*i+2)
		wantLet(t, o, 0, api.ErrArg)
		wantAppend(t, o, 2*i+2, "on")
	}
}

// P7.4, P7.2: where what was let go was lost, and then what was appended behind it too, nothing of that is left over.
func TestLetGoAndLostBehindIt(t *testing.T) {
	const count = 8
	d, l := newLog(t, count)
	wantAppend(t, l, 0, "lost")
	wantLet(t, l, 1, api.OK)
	cutAndPower(d, "")
	l = wantOpen(t, d, count, 1, 1)
	wantAppend(t, l, 1, "lost too")
	wantAppend(t, l, 2, "left over")
	wantLet(t, l, 2, api.OK)
	cutAndPower(d, "\x00\x01")
	l = wantOpen(t, d, count, 0, 0)
	for _, from := range []uint64{0, 1, 2} {
		wantOpen(t, d.Clone(), count, from, from)
	}
	wantAppend(t, l, 0, "new")
	wantSync(t, l, api.OK)
	cutAndPower(d, "")
	wantOpen(t, d, count, 0, 1, rec(0, "new"))
}

// P7.2: what stands behind the last record that is whole is read by no Open to come, from wherever: it does not hang on the number that the log was opened from meanwhile.
func TestBehindTheLastWholeRecord(t *testing.T) {
	const count = 12
	for _, meanwhile := range [][]uint64{{}, {3}, {2}, {3, 3}, {2, 3}, {3, 2}} {
		d, l := newLog(t, count)
		wantAppend(t, l, 0, "a")
		wantSync(t, l, api.OK)
		wantAppend(t, l, 1, "h")
		wantAppend(t, l, 2, "i")
		wantLet(t, l, 2, api.OK)
		wantLet(t, l, 3, api.OK)
		cutAndPower(d, "\x00\x01")
		for _, from := range meanwhile {
			o, _ := mustOpen(t, d, 0, count, from)
			at, err := o.Append(groupOf(1000, 'x'))
			if at < from || err != api.OK {
				t.Fatalf("Append: got %d, %d", at, err)
			}
			cutAndPower(d, "\x01\x00\x00")
		}
		wantOpen(t, d, count, 0, 1, rec(0, "a"))
		for _, from := range []uint64{2, 3, 1, 2} {
			wantOpen(t, d, count, from, from)
		}
		wantOpen(t, d, count, 0, 1, rec(0, "a"))
	}
}

// P7.3: records that were lost take no room, be it that they stood ahead of others that are there.
func TestRoomWhereSomeWereLost(t *testing.T) {
	for _, count := range []int{4, 6, 7, 30} {
		for lost := 1; lost <= count-3; lost++ {
			d, l := newLog(t, count)
			wantAppend(t, l, 0, "safe")
			wantSync(t, l, api.OK)
			for i := range lost {
				wantAppend(t, l, uint64(i+1), "lost")
			}
			from := l.Next()
			wantLet(t, l, from, api.OK)
			cutAndPower(d, "")
			l = wantOpen(t, d, count, from, from)
			wantAppend(t, l, from, "new")
			wantSync(t, l, api.OK)
			want := []wal.Rec{rec(0, "safe"), rec(from, "new")}
			l = wantOpen(t, d, count, 0, from+1, want...)
			for len(want) < count-2 {
				want = append(want, rec(l.Next(), "x"))
				wantAppend(t, l, l.Next(), "x")
			}
			wantAppendErr(t, l, api.ErrFull, "y")
			wantSync(t, l, api.OK)
			cutAndPower(d, "")
			l = wantOpen(t, d, count, 0, l.Next(), want...)
			wantAppendErr(t, l, api.ErrFull, "y")
			// Round and round, with the hole somewhere.
			for i := range 3 * count {
				wantLet(t, l, want[1].At, api.OK)
				want = append(want[1:], rec(l.Next(), "z", string(rune('0'+i))))
				wantAppend(t, l, l.Next(), want[len(want)-1].Group...)
				l = wantOpen(t, d, count, want[0].At, l.Next(), want...)
			}
		}
	}
}

// P7.2: a number that From was may be within another record, when what was there was lost; what stands behind it is told.
func TestFromWithinALaterRecord(t *testing.T) {
	const count = 12
	d, l := newLog(t, count)
	wantAppend(t, l, 0, "lost")
	wantAppend(t, l, 1, "lost")
	wantLet(t, l, 2, api.OK)
	cutAndPower(d, "")
	l = wantOpen(t, d, count, 0, 0)
	long := groupOf(1200, 'l')
	wantAppend(t, l, 0, long...)
	wantAppend(t, l, 3, "behind")
	wantSync(t, l, api.OK)
	wantLet(t, l, 4, api.OK)
	cutAndPower(d, "")
	for range 2 {
		l, recs := mustOpen(t, d, 0, count, 2)
		wantRecs(t, recs, rec(3, "behind"))
		wantEnds(t, l, 3, 4)
		wantOpen(t, d, count, 0, 4, rec(0, long...), rec(3, "behind"))
	}
	wantOpen(t, d, count, 4, 4)
}

// P7.2, P7.4: what is left of a record that overwrote others is wiped, but the others are known to be gone: those behind them are told all the same.
func TestWhatOverwroteIsLost(t *testing.T) {
	const count = 6
	for lost := range 3 {
		d, l := newLog(t, count)
		for i := range uint64(4) {
			wantAppend(t, l, i, "old", string(rune('0'+i)))
		}
		wantSync(t, l, api.OK)
		wantLet(t, l, 2, api.OK)
		// Two of its blocks are new, one was that of the record 0.
		wantLet(t, l, 3, api.OK)
		wantAppend(t, l, 4, groupOf(1200, 'n')...)
		if l.Next() != 7 {
			t.Fatalf("Next: got %d", l.Next())
		}
		mask := []byte{1, 1, 1}
		mask[lost] = 0
		cutAndPower(d, string(mask))
		for _, from := range []uint64{2, 3, 2} {
			c := d.Clone()
			for range 3 {
				_, recs := mustOpen(t, c, 0, count, 3)
				wantRecs(t, recs, rec(3, "old", "3"))
				_, recs = mustOpen(t, c, 0, count, from)
				wantRecs(t, recs[len(recs)-1:], rec(3, "old", "3"))
				if len(recs) != int(4-from) {
					t.Errorf("from %d: got %s", from, tell(recs))
				}
			}
		}
	}
}

// P7.1 to P7.4: long rows of calls, with cuts wherever, held against the plainest form; the log is opened from whatever From was.
func TestAgainstModel(t *testing.T) {
	r := rand.New(rand.NewSource(7))
	lengths := []int{0, 0, 0, 50, 390, 398, 402, 480, 500, 800, 1200, 3900}
	for range 400 {
		g := newRig(t, 4+r.Intn(20))
		for range 120 {
			if r.Intn(6) == 0 {
				g.d.Arm(r.Intn(8), randomMask(r))
			}
			switch r.Intn(9) {
			case 0:
				g.sync(t)
			case 1, 2:
				g.let(t, r.Intn(4))
			case 3:
				if r.Intn(4) == 0 {
					g.power(randomMask(r))
					g.openAnywhere(t, r)
				}
			case 4:
				if r.Intn(8) == 0 && g.d.On() {
					g.d.Arm(-1, "")
					g.openAnywhere(t, r)
				}
			default:
				g.append(t, lengths[r.Intn(len(lengths))])
			}
			if !g.d.On() {
				g.power("")
				g.openAnywhere(t, r)
			}
		}
	}
}

// openAnywhere opens the log, perhaps several times, perhaps from elder numbers, perhaps with cuts on the way.
func (g *rig) openAnywhere(t *testing.T, r *rand.Rand) {
	t.Helper()
	for {
		from := g.l.From()
		if v := g.valid(); r.Intn(2) == 0 {
			from = v[r.Intn(len(v))]
		}
		for r.Intn(2) == 0 && g.cutOpen(t, from, r.Intn(3), randomMask(r)) {
		}
		g.open(t, from)
		if r.Intn(3) > 0 {
			return
		}
	}
}
