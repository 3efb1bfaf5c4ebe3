package trunk_test

import (
	"fmt"
	"math/rand"
	"slices"
	"testing"

	"armoire/api"
)

// P11.5: which blocks are what, with no root, the trunk's own, elder ones, several, and one of them twice.
func TestSpace(t *testing.T) {
	d, x := newTrunk(t, 192, pairs(1)...)
	first := x.Root()
	mustCommit(t, x, 2, put(0, "a"))
	second := x.Root()
	mustCommit(t, x, 2, put(0, "b"))
	third := x.Root()
	for _, c := range []struct{ keep, held, waiting []uint32 }{
		{nil, nil, []uint32{first, second}},
		{[]uint32{third}, nil, []uint32{first, second}},
		{[]uint32{first}, []uint32{first}, []uint32{second}},
		{[]uint32{second, third}, []uint32{second}, []uint32{first}},
		{[]uint32{second, first}, []uint32{first, second}, nil},
		{[]uint32{second, second, first, second}, []uint32{first, second}, nil},
	} {
		s := mustSpace(t, x, c.keep...)
		wantSpace(t, d, s)
		if !sameBlocks(s.Trunk, third) || !sameBlocks(s.Held, c.held...) || !sameBlocks(s.Waiting, c.waiting...) {
			t.Errorf("Space(%v): got %v, %v, %v", c.keep, s.Trunk, s.Held, s.Waiting)
		}
	}
}

func sameBlocks(l []int, roots ...uint32) bool {
	var want []int
	for _, root := range roots {
		want = append(want, int(root))
	}
	slices.Sort(want)
	return slices.Equal(l, want)
}

// P11.5: a page that two roots reach is the trunk's, if the trunk reaches it.
func TestSpaceShared(t *testing.T) {
	d, x := newTrunk(t, 192, pairs(10)...)
	mustCommit(t, x, 2, puts(10, 8, "v")...)
	elder, whole := x.Root(), mustSpace(t, x).Trunk
	mustCommit(t, x, 2, put(0, "w"))
	s := mustSpace(t, x, elder)
	wantSpace(t, d, s)
	if len(whole) != len(s.Trunk) || len(s.Held) != 2 || len(s.Held) == len(whole) {
		t.Errorf("of %v the root and a leaf are held: got %v", whole, s.Held)
	}
	for _, block := range whole {
		if !slices.Contains(s.Trunk, block) && !slices.Contains(s.Held, block) {
			t.Errorf("the block %d is neither the trunk's nor held", block)
		}
	}
}

// P11.5: what is not kept is free, and how much became so; twice one behind the other nothing else does.
func TestReclaim(t *testing.T) {
	d, x := newTrunk(t, 192, pairs(1)...)
	first := x.Root()
	var roots []uint32
	for i := range 5 {
		mustCommit(t, x, 2, put(0, fmt.Sprint(i)))
		roots = append(roots, x.Root())
	}
	want := look(t, x)
	for _, c := range []struct {
		keep []uint32
		n    int
	}{
		{append(roots, first), 0},
		{append(roots, first, first), 0},
		{[]uint32{first, roots[3], roots[1], roots[3]}, 2},
		{[]uint32{first, roots[3], roots[1]}, 0},
		{[]uint32{roots[3], roots[4]}, 2},
		{[]uint32{roots[3]}, 0},
		{[]uint32{roots[4]}, 1},
		{nil, 0},
		{nil, 0},
	} {
		if n := mustReclaim(t, x, c.keep...); n != c.n {
			t.Errorf("Reclaim(%v): got %d, want %d", c.keep, n, c.n)
		}
		wantSeen(t, x, want)
		s := mustSpace(t, x, c.keep...)
		wantSpace(t, d, s)
		if len(s.Waiting) > 0 || len(d.Pending()) > 0 {
			t.Errorf("Reclaim(%v): there wait %v, pending are %v", c.keep, s.Waiting, d.Pending())
		}
		o := d.Clone()
		cutAndPower(o, "")
		wantSeen(t, mustOpen(t, o), want)
	}
}

// P11.5: Reclaim without a commit, of a trunk that has no pair.
func TestReclaimEmpty(t *testing.T) {
	d, x := newTrunk(t, 192)
	if n := mustReclaim(t, x, 0, 0); n != 0 {
		t.Errorf("got %d", n)
	}
	s := mustSpace(t, x, 0)
	wantSpace(t, d, s)
	if len(s.Free) != 192-fixed {
		t.Errorf("got %v", s)
	}
}

// P11.7: a root that is kept is read as it was, however much is committed and reclaimed.
func TestReclaimKept(t *testing.T) {
	_, x := newTrunk(t, 400, pairs(10)...)
	mustCommit(t, x, 2, puts(10, 10, "v")...)
	kept, want := x.Root(), read(t, x, x.Root())
	for i := range 20 {
		mustCommit(t, x, 2, put(i, "w"))
		mustReclaim(t, x, kept)
		if got := read(t, x, kept); len(got) != 20 || fmt.Sprint(got) != fmt.Sprint(want) {
			t.Fatalf("behind %d commits: got %v", i+1, got)
		}
	}
	if s := mustSpace(t, x, kept); len(s.Held) == 0 || len(s.Waiting) > 0 {
		t.Errorf("got %v", s)
	}
}

// P11.5: with the power off nothing is reclaimed, nor told.
func TestReclaimDown(t *testing.T) {
	d, x := newTrunk(t, 192, pairs(1)...)
	first := x.Root()
	mustCommit(t, x, 2, put(0, "a"))
	waited := mustSpace(t, x).Waiting
	d.Cut("")
	for _, keep := range [][]uint32{nil, {0}, {first}, {x.Root(), 0}, {7}} {
		if n, err := x.Reclaim(keep); n != 0 || err != api.ErrDown {
			t.Errorf("Reclaim(%v): got %d, %d", keep, n, err)
		}
		s, err := x.Space(keep)
		if len(s.Trunk)+len(s.Held)+len(s.Waiting)+len(s.Free) != 0 || err != api.ErrDown {
			t.Errorf("Space(%v): got %v, %d", keep, s, err)
		}
	}
	d.Power()
	if s := mustSpace(t, x); !slices.Equal(s.Waiting, waited) {
		t.Errorf("there wait %v, want %v", s.Waiting, waited)
	}
	if n := mustReclaim(t, x); n != 1 {
		t.Errorf("Reclaim: got %d", n)
	}
}

// R1, R2: of roots that are not there something is answered; with an error nothing has changed.
func TestReclaimWild(t *testing.T) {
	d, x := newTrunk(t, 192, pairs(1)...)
	for i := range 6 {
		mustCommit(t, x, 2, put(0, fmt.Sprint(i)))
	}
	want := look(t, x)
	for _, root := range []uint32{1, 2, 65, 90, 191, 192, 1 << 31, 1<<32 - 1} {
		waiting := len(mustSpace(t, x).Waiting)
		s, err := x.Space([]uint32{root})
		if err != api.OK && len(s.Trunk)+len(s.Held)+len(s.Waiting)+len(s.Free) != 0 {
			t.Errorf("Space(%d): got %v, %d", root, s, err)
		}
		n, err := x.Reclaim([]uint32{x.Root(), root})
		if behind := len(mustSpace(t, x).Waiting); err != api.OK && (n != 0 || behind != waiting) {
			t.Errorf("Reclaim(%d): got %d, %d; there wait %d", root, n, err, behind)
		}
		wantSeen(t, x, want)
		wantSpace(t, d, mustSpace(t, x))
	}
}

// P11.7, P11.3: overwriting and reclaiming goes on for ever, on the smallest disk too.
func TestReclaimForEver(t *testing.T) {
	r := rand.New(rand.NewSource(3))
	d, x := newTrunk(t, 192, pairs(10)...)
	mustCommit(t, x, 2, puts(10, 9, "v")...)
	for i := range 1000 {
		mustReclaim(t, x)
		n := r.Intn(10)
		mustCommit(t, x, uint32(i), put(n, fmt.Sprint(i)), gone(n+5), put(n+5, "x"), put(r.Intn(19), "y"))
		s := mustSpace(t, x)
		wantSpace(t, d, s)
		wantBounds(t, x, s, 4)
	}
	want := look(t, x)
	if len(want.pairs) != 19 || want.items != 19 {
		t.Errorf("got %v", want)
	}
	wantSeen(t, mustOpen(t, d), want)
}

// P11.7: the counts of a tree that grows as large as the disk has room for, and shrinks again.
func TestLargest(t *testing.T) {
	d, x := newTrunk(t, 1024)
	n := 0
	for ; ; n += 32 {
		err := x.Commit(puts(n, 32, "v"), 2)
		if err == api.ErrFull {
			break
		}
		if err != api.OK {
			t.Fatalf("Commit at %d items: got %d", n, err)
		}
		wantBounds(t, x, mustSpace(t, x), 32)
		mustReclaim(t, x)
		s := mustSpace(t, x)
		wantSpace(t, d, s)
		wantBounds(t, x, s, 0)
	}
	// 82 + n / 4 + 4 + 320 blocks are 1024 with 2472 items.
	if n != 2496 || x.Items() != n {
		t.Errorf("there are %d items, of %d", x.Items(), n)
	}
	x = mustOpen(t, d)
	for ; n > 0; n -= 32 {
		for i := range 32 {
			mustCommit(t, x, 3, gone((n-32)+(i*13)%32))
			wantBounds(t, x, mustSpace(t, x), i+1)
		}
		mustReclaim(t, x)
		wantBounds(t, x, mustSpace(t, x), 0)
	}
	if x.Items() != 0 || x.Root() != 0 {
		t.Errorf("there are %d items", x.Items())
	}
}

// R4: the roots that are handed in are not changed, and no two lists of one answer share memory.
func TestSpaceMemory(t *testing.T) {
	d, x := newTrunk(t, 192, pairs(10)...)
	first := x.Root()
	mustCommit(t, x, 2, put(0, "a"))
	mustCommit(t, x, 2, put(0, "b"))
	keep := append(make([]uint32, 0, 4), x.Root(), first, first)
	copies := slices.Clone(keep[:4])
	s := mustSpace(t, x, keep...)
	for _, l := range [][]int{s.Trunk, s.Held, s.Waiting, s.Free} {
		all := l[:cap(l)]
		for i := range all {
			all[i] = -1
		}
		if again := mustSpace(t, x, keep...); len(again.Trunk)+len(again.Held)+len(again.Waiting)+len(again.Free) != 126 {
			t.Errorf("got %v", again)
		}
		wantSpace(t, d, mustSpace(t, x, keep...))
	}
	for _, l := range [][]int{s.Trunk, s.Held, s.Waiting, s.Free} {
		for i := range l[:cap(l)] {
			if l[:cap(l)][i] != -1 {
				t.Errorf("a list was changed behind another one: %v", s)
			}
			l[:cap(l)][i] = -2
		}
	}
	mustReclaim(t, x, keep...)
	if !slices.Equal(keep[:4], copies) {
		t.Errorf("the roots were changed: %v", keep[:4])
	}
	clear(keep)
	if got := read(t, x, first); got[key(0)] != "v" {
		t.Errorf("got %v", got)
	}
}
