package reads_test

import (
	"math"
	"math/rand"
	"slices"
	"testing"

	"armoire/api"
	"armoire/reads"
)

// P15.2: a set without any.
func TestNewIsEmpty(t *testing.T) {
	s := reads.New()
	wantSet(t, s)
	wantErr(t, "Undo(0)", s.Undo(0), api.OK)
	wantErr(t, "Undo(1)", s.Undo(1), api.ErrArg)
	wantErr(t, "Undo(-1)", s.Undo(-1), api.ErrArg)
	wantSet(t, s)
}

// P15.2: each kind is kept, in the order of the first addition, which is none of theirs.
func TestAllInOrder(t *testing.T) {
	want := each(2)
	slices.Reverse(want)
	want = append(want, each(1)...)
	wantSet(t, made(t, want...), want...)
}

// P15.2: what is there already is there once, where it was; what differs in one field is another one.
func TestAddTwice(t *testing.T) {
	a, b, c := name(1, "a"), name(1, "b"), span(2, 0, 4)
	s := made(t, a, b, a, c, b, a)
	wantSet(t, s, a, b, c)
	near := list(span(2, 0, 5), span(2, 1, 4), span(3, 0, 4), name(2, "a"), of(api.Size, 2), of(api.Mode, 2))
	for _, x := range near {
		wantErr(t, "Add", s.Add(x), api.OK)
	}
	wantSet(t, s, append(list(a, b, c), near...)...)
}

// P15.2: what may not be is refused, and changes nothing.
func TestAddOfWhatMayNotBe(t *testing.T) {
	s := made(t, name(1, "a"))
	for _, x := range wrong() {
		wantErr(t, "Add", s.Add(x), api.ErrArg)
		wantSet(t, s, name(1, "a"))
	}
}

// P15.2: Undo at 0, in the midst, at Mark(), at one past it and below 0.
func TestUndo(t *testing.T) {
	all := each(3)
	for mark := range len(all) + 1 {
		s := made(t, all...)
		wantErr(t, "Undo", s.Undo(mark), api.OK)
		wantSet(t, s, all[:mark]...)
		wantErr(t, "Undo", s.Undo(mark), api.OK)
		wantErr(t, "Undo", s.Undo(mark+1), api.ErrArg)
		wantSet(t, s, all[:mark]...)
	}
	s := made(t, all...)
	for _, mark := range []int{-1, math.MinInt, len(all) + 1, math.MaxInt} {
		wantErr(t, "Undo", s.Undo(mark), api.ErrArg)
		wantSet(t, s, all...)
	}
}

// P15.2: what was undone may be added again, and stands then where it was added again; what was not undone stays once.
func TestAddBehindUndo(t *testing.T) {
	a, b, c := name(1, "a"), name(1, "b"), name(1, "c")
	s := made(t, a, b, c)
	wantErr(t, "Undo", s.Undo(1), api.OK)
	for _, x := range list(c, a, b, c) {
		wantErr(t, "Add", s.Add(x), api.OK)
	}
	wantSet(t, s, a, c, b)
	wantErr(t, "Undo", s.Undo(0), api.OK)
	wantErr(t, "Add", s.Add(b), api.OK)
	wantErr(t, "Add", s.Add(a), api.OK)
	wantSet(t, s, b, a)
}

// P15.2: a touch that was added twice on both sides of a mark stays, as it was first added ahead of it.
func TestUndoOfASecondAddition(t *testing.T) {
	a, b := span(1, 0, 4), of(api.Size, 1)
	s := made(t, a)
	mark := s.Mark()
	for _, x := range list(a, b, a) {
		wantErr(t, "Add", s.Add(x), api.OK)
	}
	wantErr(t, "Undo", s.Undo(mark), api.OK)
	wantSet(t, s, a)
}

// P15.2: what was told is not changed by what is done later, nor the other way about, spare room too.
func TestAllIsNewMemory(t *testing.T) {
	a, b, c := name(1, "a"), name(1, "b"), name(1, "c")
	s := made(t, a, b, c)
	first, second := s.All(), s.All()
	wantErr(t, "Undo", s.Undo(1), api.OK)
	wantErr(t, "Add", s.Add(c), api.OK)
	if !slices.Equal(first, list(a, b, c)) {
		t.Errorf("what was told has changed: %+v", first)
	}
	for i := range first[:cap(first)] {
		first[:cap(first)][i] = api.Touch{}
	}
	wantSet(t, s, a, c)
	if !slices.Equal(second, list(a, b, c)) {
		t.Errorf("two answers share memory: %+v", second)
	}
	wantErr(t, "Add", s.Add(b), api.OK)
	wantSet(t, s, a, c, b)
}

// P15.2: two sets do not see each other.
func TestSetsAreTheirOwn(t *testing.T) {
	a, b := made(t, name(1, "a")), made(t, name(1, "b"))
	wantErr(t, "Add", a.Add(name(1, "b")), api.OK)
	wantErr(t, "Undo", b.Undo(0), api.OK)
	wantSet(t, a, name(1, "a"), name(1, "b"))
	wantSet(t, b)
}

// P15.2: any calls, against a plain list.
func TestSetAgainstAList(t *testing.T) {
	rnd := rand.New(rand.NewSource(152))
	for range 60 {
		s := reads.New()
		var want []api.Touch
		for range 120 {
			if rnd.Intn(8) == 0 {
				mark := rnd.Intn(len(want)+3) - 1
				if mark < 0 || mark > len(want) {
					wantErr(t, "Undo", s.Undo(mark), api.ErrArg)
				} else {
					wantErr(t, "Undo", s.Undo(mark), api.OK)
					want = want[:mark]
				}
			} else if x := some(rnd); !mayBe(x) {
				wantErr(t, "Add", s.Add(x), api.ErrArg)
			} else {
				wantErr(t, "Add", s.Add(x), api.OK)
				if !slices.Contains(want, x) {
					want = append(want, x)
				}
			}
			wantSet(t, s, want...)
		}
	}
}
