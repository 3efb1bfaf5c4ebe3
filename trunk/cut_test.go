package trunk_test

import (
	"slices"
	"strings"
	"testing"

	"armoire/api"
	"armoire/disk"
	"armoire/trunk"
)

// scene is a trunk that something is done to while the power is cut.
type scene struct {
	name string
	set  func(t *testing.T) (*disk.Disk, *trunk.Trunk)
}

func scenes() []scene {
	return []scene{
		{"made", func(t *testing.T) (*disk.Disk, *trunk.Trunk) { return newTrunk(t, 300, pairs(3)...) }},
		{"empty", func(t *testing.T) (*disk.Disk, *trunk.Trunk) { return newTrunk(t, 300) }},
		{"with records", func(t *testing.T) (*disk.Disk, *trunk.Trunk) {
			d, x := newTrunk(t, 300, pairs(10)...)
			mustCommit(t, x, 3, puts(20, 3, "v")...)
			mustCommit(t, x, 4, gone(21), put(20, "w"))
			return d, x
		}},
		{"reclaimed", func(t *testing.T) (*disk.Disk, *trunk.Trunk) {
			d, x := newTrunk(t, 300, pairs(10)...)
			mustCommit(t, x, 3, puts(20, 3, "v")...)
			mustReclaim(t, x)
			mustCommit(t, x, 4, gone(21), put(20, "w"))
			mustReclaim(t, x)
			mustCommit(t, x, 5, put(20, "x"))
			return d, x
		}},
		{"with its log full", func(t *testing.T) (*disk.Disk, *trunk.Trunk) {
			d, x := newTrunk(t, 300, pairs(10)...)
			mustCommit(t, x, 3, put(1, "w"))
			for range 61 {
				mustCommit(t, x, 4)
			}
			return d, x
		}},
		{"opened", func(t *testing.T) (*disk.Disk, *trunk.Trunk) {
			d, x := newTrunk(t, 300, pairs(10)...)
			mustCommit(t, x, 3, puts(20, 3, "v")...)
			cutAndPower(d, "")
			x = mustOpen(t, d)
			mustCommit(t, x, 4, gone(21), put(20, "w"))
			return d, x
		}},
	}
}

// eachCut does something to a scene's trunk, with the power cut behind each number of writes, and each of some masks.
func eachCut(t *testing.T, s scene, do func(x *trunk.Trunk) api.Errno, behind func(d *disk.Disk, x *trunk.Trunk, ahead seen)) {
	t.Helper()
	for _, mask := range someMasks() {
		for n := 0; ; n++ {
			d, x := s.set(t)
			ahead, root := look(t, x), x.Root()
			d.Arm(n, mask)
			err := do(x)
			if err == api.OK {
				if n == 0 {
					t.Fatalf("%s: nothing was written", s.name)
				}
				break
			}
			if err != api.ErrDown || d.On() {
				t.Fatalf("%s, cut at %d: got %d", s.name, n, err)
			}
			if x.Root() != root || x.Version() != ahead.version || x.Items() != ahead.items || x.Next() != ahead.next {
				t.Fatalf("%s, cut at %d: something has changed", s.name, n)
			}
			d.Power()
			behind(d, x, ahead)
		}
	}
}

func commits() [][]trunk.Step {
	return [][]trunk.Step{
		nil,
		{put(1, "new")},
		{gone(0), gone(1), gone(2)},
		{put(7, strings.Repeat("x", 34)), put(15, "y"), gone(3), put(20, "z")},
		puts(30, 8, strings.Repeat("x", 34)), // two blocks of the log
	}
}

// wantGoesOn looks that a trunk that was opened behind a cut is as good as any: what is committed lasts.
func wantGoesOn(t *testing.T, d *disk.Disk, x *trunk.Trunk) {
	t.Helper()
	s := mustSpace(t, x)
	wantSpace(t, d, s)
	wantBounds(t, x, s, 0)
	if len(s.Waiting) > 0 {
		t.Fatalf("behind Open there wait %v", s.Waiting)
	}
	want := look(t, x).behind([]trunk.Step{put(50, "on")}, 77)
	mustCommit(t, x, 77, put(50, "on"))
	cutAndPower(d, "")
	wantSeen(t, mustOpen(t, d), want)
}

// P11.6: a Commit that was cut, whatever survives, is there wholly, or not at all.
func TestCutCommit(t *testing.T) {
	for _, s := range scenes() {
		for _, l := range commits() {
			commit := func(x *trunk.Trunk) api.Errno { return x.Commit(l, 99) }
			eachCut(t, s, commit, func(d *disk.Disk, x *trunk.Trunk, ahead seen) {
				x = mustOpen(t, d)
				if got := look(t, x); !got.same(ahead) && !got.same(ahead.behind(l, 99)) {
					t.Fatalf("%s: got %v, ahead of the commit it was %v", s.name, got, ahead)
				}
				wantGoesOn(t, d, x)
			})
		}
	}
}

// P11.6: a Commit whose record and pages all survive is there; one of which nothing survives is not.
func TestCutCommitAll(t *testing.T) {
	for _, survives := range []bool{true, false} {
		d, x := newTrunk(t, 300, pairs(3)...)
		want := look(t, x)
		writes := d.Writes()
		mustCommit(t, x, 9, put(1, "a"))
		count := d.Writes() - writes

		d, x = newTrunk(t, 300, pairs(3)...)
		mask := ""
		if survives {
			mask = strings.Repeat("\x01", count)
			want = want.behind([]trunk.Step{put(1, "a")}, 9)
		}
		d.Arm(count, mask)
		wantCommitErr(t, x, []trunk.Step{put(1, "a")}, api.ErrDown)
		d.Power()
		x = mustOpen(t, d)
		if survives {
			want.next = 3 // as wantCommitErr has it
		}
		wantSeen(t, x, want)
	}
}

// P11.6: a Reclaim that was cut has changed nothing that is told.
func TestCutReclaim(t *testing.T) {
	for _, s := range scenes() {
		for _, own := range []bool{false, true} {
			reclaim := func(x *trunk.Trunk) api.Errno {
				var keep []uint32
				if own {
					keep = []uint32{x.Root()}
				}
				n, err := x.Reclaim(keep)
				if err != api.OK && n != 0 {
					t.Fatalf("%s: got %d, %d", s.name, n, err)
				}
				return err
			}
			eachCut(t, s, reclaim, func(d *disk.Disk, x *trunk.Trunk, ahead seen) {
				wantSeen(t, x, ahead)
				x = mustOpen(t, d)
				wantSeen(t, x, ahead)
				wantGoesOn(t, d, x)
			})
		}
	}
}

// openCut opens a disk's trunk with the power cut behind so many writes, and turns it on again.
func openCut(t *testing.T, d *disk.Disk, n int, mask string) api.Errno {
	t.Helper()
	d.Arm(n, mask)
	x, err := trunk.Open(d)
	if (x != nil) != (err == api.OK) || err != api.OK && err != api.ErrDown {
		t.Fatalf("cut at %d: got %v, %d", n, x, err)
	}
	d.Cut(mask)
	d.Power()
	return err
}

// P11.6: an Open that was cut, again and again, has changed nothing that is told.
func TestCutOpen(t *testing.T) {
	for _, s := range scenes() {
		for _, mask := range someMasks() {
			for n := 0; ; n++ {
				d, x := s.set(t)
				want := look(t, x)
				if openCut(t, d, n, mask) == api.OK {
					break
				}
				openCut(t, d, n/2, mask)
				openCut(t, d, n+1, mask)
				x = mustOpen(t, d)
				wantSeen(t, x, want)
				wantGoesOn(t, d, x)
			}
		}
	}
}

// P11.6: behind an Open of a log with a torn record that was itself cut, the record is there wholly or not at all, and stays so.
func TestCutOpenBehindCommit(t *testing.T) {
	l := puts(30, 8, strings.Repeat("x", 34))
	for _, s := range scenes() {
		for _, mask := range masks(3) {
			for n := range 12 {
				d, x := s.set(t)
				may := []seen{look(t, x), look(t, x).behind(l, 99)}
				d.Arm(9+n%4, mask)
				x.Commit(l, 99)
				d.Cut(mask)
				d.Power()
				openCut(t, d, n, mask)
				got := look(t, mustOpen(t, d))
				if !slices.ContainsFunc(may, got.same) {
					t.Fatalf("%s: got %v, want one of %v", s.name, got, may)
				}
				cutAndPower(d, "")
				wantSeen(t, mustOpen(t, d), got)
			}
		}
	}
}

// P11.6, R2: a trunk whose power was cut in the midst of a call, and is on again, has all its roots, and what it commits then lasts; nothing of what it refused does.
func TestCutAndOn(t *testing.T) {
	for _, s := range scenes() {
		calls := []func(x *trunk.Trunk) api.Errno{
			func(x *trunk.Trunk) api.Errno { return x.Commit([]trunk.Step{put(1, "new"), put(2, "new")}, 99) },
			func(x *trunk.Trunk) api.Errno { return x.Commit(puts(30, 8, strings.Repeat("x", 34)), 99) },
			func(x *trunk.Trunk) api.Errno { _, err := x.Reclaim(nil); return err },
		}
		for _, call := range calls {
			eachCut(t, s, call, func(d *disk.Disk, x *trunk.Trunk, ahead seen) {
				wantSeen(t, x, ahead)
				want := ahead.behind([]trunk.Step{put(60, "on")}, 50)
				mustCommit(t, x, 50, put(60, "on"))
				wantSeen(t, x, want)
				c := d.Clone()
				cutAndPower(c, "")
				wantSeen(t, mustOpen(t, c), want)
				mustReclaim(t, x)
				cutAndPower(d, "")
				wantSeen(t, mustOpen(t, d), want)
			})
		}
	}
}
