package free_test

import (
	"math"
	"slices"
	"testing"

	"armoire/api"
	"armoire/free"
)

// The chapter's example, call by call.
func TestExample(t *testing.T) {
	m := newMap(t, 4, 10, 5)
	wantTake(t, m, 4, api.OK)
	wantRun(t, m, 2, 6, api.OK)
	wantDefer(t, m, 4, api.OK)
	wantLists(t, m, []int{8, 9}, []int{5, 6, 7}, []int{4})
	wantTake(t, m, 8, api.OK)
	wantSweep(t, m, []int{4}, 0)
	wantSweep(t, m, nil, 1)
	wantTake(t, m, 4, api.OK)
}

// P6.2: Take takes the least one that is free, past gaps, till none is.
func TestTake(t *testing.T) {
	m := newMap(t, 4, 10, 4, 6, 7)
	for _, want := range []int{5, 8, 9} {
		wantTake(t, m, want, api.OK)
		wantIs(t, m, want, 2)
	}
	wantTake(t, m, 0, api.ErrFull)
	wantLists(t, m, nil, span(4, 10), nil)
	wantGive(t, m, 7, api.OK)
	wantTake(t, m, 7, api.OK)
	wantTake(t, m, 0, api.ErrFull)
}

// P6.2: Take with one free, at either end and in the midst, and with none from the beginning on.
func TestTakeOne(t *testing.T) {
	for i := 4; i < 10; i++ {
		m := newMap(t, 4, 10, slices.DeleteFunc(span(4, 10), func(x int) bool { return x == i })...)
		wantTake(t, m, i, api.OK)
		wantTake(t, m, 0, api.ErrFull)
	}
	wantTake(t, newMap(t, 4, 10, span(4, 10)...), 0, api.ErrFull)
	wantTake(t, newMap(t, 0, 1), 0, api.OK)
}

// P6.2: TakeRun takes the first ones of so many side by side; a run that is too short is passed over and stays free.
func TestTakeRun(t *testing.T) {
	// Free are 10, 12 13, 15 16 17, 19 20, 22 23 24.
	taken := []int{11, 14, 18, 21}
	for _, x := range []struct{ n, want int }{{1, 10}, {2, 12}, {3, 15}} {
		m := newMap(t, 10, 25, taken...)
		wantRun(t, m, x.n, x.want, api.OK)
		run := span(x.want, x.want+x.n)
		isFree := slices.DeleteFunc(span(10, 25), func(i int) bool { return slices.Contains(taken, i) || slices.Contains(run, i) })
		wantLists(t, m, isFree, slices.Sorted(slices.Values(slices.Concat(taken, run))), nil)
	}
	m := newMap(t, 10, 25, taken...)
	wantRun(t, m, 4, 0, api.ErrFull)
	wantRun(t, m, 3, 15, api.OK)
	wantRun(t, m, 3, 22, api.OK)
	wantRun(t, m, 3, 0, api.ErrFull)
	wantRun(t, m, 2, 12, api.OK)
	wantRun(t, m, 2, 19, api.OK)
	wantRun(t, m, 2, 0, api.ErrFull)
	wantRun(t, m, 1, 10, api.OK)
	wantRun(t, m, 1, 0, api.ErrFull)
}

// P6.2: a longer run holds a shorter one, whose first one is the least.
func TestTakeRunOfALongerOne(t *testing.T) {
	m := newMap(t, 0, 8, 0, 6)
	wantRun(t, m, 3, 1, api.OK)
	wantLists(t, m, []int{4, 5, 7}, []int{0, 1, 2, 3, 6}, nil)
	wantRun(t, m, 2, 4, api.OK)
	wantRun(t, m, 1, 7, api.OK)
}

// P6.2: a run at the end, all of the blocks, and one more than there are.
func TestTakeRunAtTheEnd(t *testing.T) {
	for n := 1; n <= 6; n++ {
		m := newMap(t, 4, 10, span(4, 10-n)...)
		wantRun(t, m, n+1, 0, api.ErrFull)
		wantRun(t, m, n, 10-n, api.OK)
		wantLists(t, m, nil, span(4, 10), nil)
	}
	for n := 1; n < 6; n++ { // a run at the beginning
		m := newMap(t, 4, 10, span(4+n, 10)...)
		wantRun(t, m, n+1, 0, api.ErrFull)
		wantRun(t, m, n, 4, api.OK)
	}
	wantRun(t, newMap(t, 0, 1024), 1025, 0, api.ErrFull)
	wantRun(t, newMap(t, 0, 1024), 1024, 0, api.OK)
}

// P6.2: numbers below 1, and such that a sum with them wraps round; nothing is taken (R2). ErrArg stands ahead of ErrFull.
func TestTakeRunRefuses(t *testing.T) {
	m, full := newMap(t, 4, 10, 5), newMap(t, 4, 6, 4, 5)
	for _, n := range []int{0, -1, -6, math.MinInt, math.MinInt + 1} {
		wantRun(t, m, n, 0, api.ErrArg)
		wantRun(t, full, n, 0, api.ErrArg)
	}
	for _, n := range []int{5, 6, 7, 1 << 31, math.MaxInt - 5, math.MaxInt - 1, math.MaxInt} {
		wantRun(t, m, n, 0, api.ErrFull)
	}
	wantLists(t, m, []int{4, 6, 7, 8, 9}, []int{5}, nil)
}

// P6.2, P6.5: a block that waits is no part of a run.
func TestRunPastWaiting(t *testing.T) {
	m := newMap(t, 4, 10, 6)
	deferred(t, m, 6)
	wantRun(t, m, 4, 0, api.ErrFull)
	wantRun(t, m, 3, 7, api.OK)
	wantRun(t, m, 2, 4, api.OK)
	wantTake(t, m, 0, api.ErrFull)
	wantSweep(t, m, nil, 1)
	wantTake(t, m, 6, api.OK)
}

// P6.2: Give frees what is taken, Defer lets it wait; of all else: ErrNone, and nothing changes (R2).
func TestGiveAndDefer(t *testing.T) {
	m := newMap(t, 4, 10, 4, 6, 7, 9)
	wantGive(t, m, 4, api.OK)
	wantDefer(t, m, 9, api.OK)
	others := slices.Concat([]int{4, 5, 8, 9, 3, 10, 0, -1, 1023, 1024}, far)
	for _, i := range others {
		wantGive(t, m, i, api.ErrNone)
		wantDefer(t, m, i, api.ErrNone)
	}
	wantLists(t, m, []int{4, 5, 8}, []int{6, 7}, []int{9})
	wantGive(t, m, 7, api.OK)
	wantDefer(t, m, 6, api.OK)
	wantLists(t, m, []int{4, 5, 7, 8}, nil, []int{6, 9})
}

// P6.3: what waits and is not kept is free; what else stands in keep does not matter.
func TestSweep(t *testing.T) {
	for _, x := range []struct {
		keep  []int
		count int
		stay  []int
	}{
		{nil, 3, nil},
		{[]int{}, 3, nil},
		{[]int{6}, 2, []int{6}},
		{[]int{6, 6}, 2, []int{6}},
		{[]int{9, 4}, 1, []int{4, 9}},
		{[]int{9, 6, 4}, 0, []int{4, 6, 9}},
		{[]int{4, 6, 9, 4, 9}, 0, []int{4, 6, 9}},
		{[]int{5, 7, 8}, 3, nil},
		{[]int{3, 10, 0, -1, 1024}, 3, nil},
		{slices.Concat(far, []int{5, 9, 10, 8}), 2, []int{9}},
		{span(0, 1024), 0, []int{4, 6, 9}},
	} {
		m := newMap(t, 4, 10, 4, 6, 7, 9)
		deferred(t, m, 9, 4, 6)
		wantSweep(t, m, x.keep, x.count)
		isFree := slices.DeleteFunc(span(4, 10), func(i int) bool { return i == 7 || slices.Contains(x.stay, i) })
		wantLists(t, m, isFree, []int{7}, x.stay)
		wantSweep(t, m, x.keep, 0)
		wantSweep(t, m, nil, len(x.stay))
	}
}

// P6.3: where none waits, none is freed.
func TestSweepOfNothing(t *testing.T) {
	m := newMap(t, 4, 10, 5)
	wantSweep(t, m, nil, 0)
	wantSweep(t, m, []int{5, 6}, 0)
	wantLists(t, m, []int{4, 6, 7, 8, 9}, []int{5}, nil)
}

// R4: keep is not changed, nor kept for a later Sweep.
func TestSweepKeepsNothing(t *testing.T) {
	m := newMap(t, 4, 10, 8, 6, 4)
	deferred(t, m, 8, 6, 4)
	room := []int{8, 4, 77, 78}
	wantSweep(t, m, room[:2], 1)
	if !slices.Equal(room, []int{8, 4, 77, 78}) {
		t.Errorf("the list is now %v", room)
	}
	wantSweep(t, m, []int{4}, 1)
	wantSweep(t, m, nil, 1)
}

// P6.4: Is of each of the three, and of numbers on both sides.
func TestIs(t *testing.T) {
	m := newMap(t, 4, 10, 5, 9)
	deferred(t, m, 9)
	for i, want := range []int{0, 0, 0, 0, 1, 2, 1, 1, 1, 3, 0, 0} {
		wantIs(t, m, i, want)
	}
	for _, i := range slices.Concat(far, []int{-1, -4, 1023, 1024}) {
		wantIs(t, m, i, 0)
	}
	whole := newMap(t, 0, 1024, 0, 1023)
	for i, want := range map[int]int{-1: 0, 0: 2, 1: 1, 1022: 1, 1023: 2, 1024: 0} {
		wantIs(t, whole, i, want)
	}
}

// P6.4: the lists rise, in whichever order the blocks came; where none is so, they are empty.
func TestLists(t *testing.T) {
	m := newMap(t, 4, 8, 7, 5, 6, 4)
	wantLists(t, m, nil, []int{4, 5, 6, 7}, nil)
	deferred(t, m, 6, 4)
	wantLists(t, m, nil, []int{5, 7}, []int{4, 6})
	wantGive(t, m, 7, api.OK)
	wantGive(t, m, 5, api.OK)
	wantLists(t, m, []int{5, 7}, nil, []int{4, 6})
	wantSweep(t, m, nil, 2)
	wantLists(t, m, []int{4, 5, 6, 7}, nil, nil)
}

// R4: a list is new memory, its spare room too: whoever spoils it spoils no other answer.
func TestListsAreNew(t *testing.T) {
	m := newMap(t, 4, 10, 5, 6, 8, 9)
	deferred(t, m, 6, 9)
	for _, list := range []func() []int{m.Free, m.Taken, m.Waiting} {
		l, other := list(), list()
		l = l[:cap(l)]
		for i := range l {
			l[i] = -7
		}
		if slices.Contains(other[:cap(other)], -7) {
			t.Errorf("two answers share memory")
		}
		wantLists(t, m, []int{4, 7}, []int{5, 8}, []int{6, 9})
	}
}

// P6.4, P6.5, R5: a clone is another map: neither sees what is done to the other.
func TestClone(t *testing.T) {
	changes := []func(m *free.Map){
		func(m *free.Map) { wantTake(t, m, 4, api.OK) },
		func(m *free.Map) { wantRun(t, m, 2, 7, api.OK) },
		func(m *free.Map) { wantGive(t, m, 5, api.OK) },
		func(m *free.Map) { wantDefer(t, m, 6, api.OK) },
		func(m *free.Map) { wantSweep(t, m, nil, 1) },
	}
	for k, change := range changes {
		m := newMap(t, 4, 10, 5, 6, 9)
		deferred(t, m, 9)
		c, d := m.Clone(), m.Clone()
		if c == m || c == d {
			t.Fatalf("a clone is the same map")
		}
		change(m)
		wantLists(t, c, []int{4, 7, 8}, []int{5, 6}, []int{9})
		wantIs(t, c, 3, 0)
		wantIs(t, c, 10, 0)
		change(c)
		wantLists(t, c, m.Free(), m.Taken(), m.Waiting())
		wantLists(t, d, []int{4, 7, 8}, []int{5, 6}, []int{9})
		changes[(k+1)%len(changes)](d.Clone())
		wantLists(t, d, []int{4, 7, 8}, []int{5, 6}, []int{9})
	}
}
