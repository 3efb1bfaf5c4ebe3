package delta_test

import (
	"math"
	"math/rand"
	"slices"
	"testing"

	"armoire/api"
	"armoire/delta"
)

// P13.3: a delta without any change, of each most.
func TestNew(t *testing.T) {
	for _, most := range []int{math.MinInt, -1, 0, 1, 64, math.MaxInt} {
		d := delta.New(most)
		wantAll(t, d, 0)
		for _, p := range append(somePlaces(), wrongPlaces()...) {
			wantNone(t, d, p)
		}
		wantUndo(t, d, 0, api.OK)
		wantAll(t, d, 0)
	}
}

// P13.3: most below 0, and 0: there is room for no place; what may not be is told ahead of that.
func TestNewOfNone(t *testing.T) {
	for _, most := range []int{math.MinInt, -64, -1, 0} {
		d := delta.New(most)
		for _, c := range someChanges() {
			wantPut(t, d, c, api.ErrTooBig)
		}
		wantPut(t, d, api.Change{}, api.ErrArg)
		wantPut(t, d, size(record(2), 513), api.ErrArg)
		wantAll(t, d, 0)
	}
}

// P13.3: most of 1: one place, as often as one likes.
func TestNewOfOne(t *testing.T) {
	d := delta.New(1)
	wantPut(t, d, size(record(2), 5), api.OK)
	wantPut(t, d, size(record(3), 5), api.ErrTooBig)
	wantPut(t, d, text(data(2, 0), 0, "a"), api.ErrTooBig)
	wantPut(t, d, mode(record(2), 6), api.OK)
	wantPut(t, d, size(record(2), 7), api.OK)
	wantAll(t, d, 3, fields(record(2), 5, 6, 0, 7))
	wantPut(t, d, gone(record(2)), api.OK)
	wantPut(t, d, gone(record(3)), api.ErrTooBig)
	wantAll(t, d, 4, gone(record(2)))
	wantUndo(t, d, 0, api.OK)
	wantPut(t, d, size(record(3), 5), api.OK)
	wantAll(t, d, 1, size(record(3), 5))
}

// P13.3: where there are most, a place that has a change takes another one, a place that has none does not; what is gone counts.
func TestPutWhereThereAreMost(t *testing.T) {
	for _, most := range []int{1, 2, 5, api.MaxPlaces} {
		d := delta.New(most)
		var want []api.Change
		for i := range most {
			want = append(want, file(record(uint32(i+1))))
			wantPut(t, d, want[i], api.OK)
		}
		over := uint32(most + 1)
		wantPut(t, d, file(record(over)), api.ErrTooBig)
		wantPut(t, d, leads(entry(1, "a"), 2), api.ErrTooBig)
		wantAll(t, d, most, want...)
		for i := range want {
			want[i].Inode.Size = i
			wantPut(t, d, size(want[i].Place, i), api.OK)
		}
		wantPut(t, d, size(record(over), 1), api.ErrTooBig)
		wantAll(t, d, 2*most, want...)
		for i := range want {
			want[i] = gone(want[i].Place)
			wantPut(t, d, want[i], api.OK)
		}
		wantPut(t, d, file(record(over)), api.ErrTooBig)
		wantAll(t, d, 3*most, want...)
	}
}

// P13.3: each change at a place that has none.
func TestPutOfEach(t *testing.T) {
	for _, c := range someChanges() {
		d := delta.New(1)
		wantPut(t, d, c, api.OK)
		wantAll(t, d, 1, c)
	}
}

// P13.3: each change at a place that has one: Join, or its error, which changes nothing.
func TestPutOfEachUponEach(t *testing.T) {
	for _, l := range [][]api.Change{recordChanges(record(2)), entryChanges(entry(1, "a")), dataChanges(data(2, 1))} {
		for _, a := range l {
			for _, b := range l {
				d := delta.New(1)
				wantPut(t, d, a, api.OK)
				want, wantErr := joined(a, b)
				wantPut(t, d, b, wantErr)
				if wantErr == api.OK {
					wantAll(t, d, 2, want)
				} else {
					wantAll(t, d, 1, a)
				}
			}
		}
	}
}

// P13.3: what may not be is refused at a place that has a change, at one that has none, and where there are most; nothing changes.
func TestPutOfWrongOnes(t *testing.T) {
	kept := []api.Change{leads(entry(1, "a"), 3), file(record(2)), text(data(2, 1), 0, "a")}
	for _, most := range []int{3, 9} {
		d := delta.New(most)
		for _, c := range kept {
			wantPut(t, d, c, api.OK)
		}
		for _, p := range wrongPlaces() {
			for _, c := range someChanges() {
				c.Place = p
				wantPut(t, d, c, api.ErrArg)
				wantNone(t, d, p)
			}
		}
		for _, c := range someChanges() {
			for _, change := range also() {
				wrong := c
				change(&wrong)
				if mayBe(wrong) {
					continue
				}
				wantPut(t, d, wrong, api.ErrArg)
				wrong.Place.Ino = 99
				wantPut(t, d, wrong, api.ErrArg)
				wantNone(t, d, wrong.Place)
			}
		}
		wantAll(t, d, 3, kept...)
	}
}

// P13.3: Join's errors, at the place's change as it has become.
func TestPutOfWhatCannotBeJoined(t *testing.T) {
	r := record(2)
	d := delta.New(2)
	wantPut(t, d, fresh(r, api.Dir, 6, 1, 0), api.OK)
	wantPut(t, d, link(r, 2), api.ErrArg)
	wantPut(t, d, size(r, 1), api.ErrArg)
	wantAll(t, d, 1, fresh(r, api.Dir, 6, 1, 0))
	wantPut(t, d, mode(r, 1), api.OK)
	wantAll(t, d, 2, fresh(r, api.Dir, 1, 1, 0))
	wantPut(t, d, gone(r), api.OK)
	wantPut(t, d, size(r, 1), api.ErrState)
	wantAll(t, d, 3, gone(r))
	wantPut(t, d, file(r), api.OK)
	wantPut(t, d, size(r, 1), api.OK)
	wantAll(t, d, 5, fresh(r, api.File, 6, 1, 1))
}

// P13.3: All by place.Compare, in whatever order they were put in.
func TestAllInOrder(t *testing.T) {
	var want []api.Change
	for _, p := range somePlaces() {
		want = append(want, gone(p))
	}
	r := rand.New(rand.NewSource(3))
	for range 50 {
		d := delta.New(len(want))
		for _, i := range r.Perm(len(want)) {
			wantPut(t, d, want[i], api.OK)
		}
		wantAll(t, d, len(want), want...)
	}
}

// P13.3: Get of places that have none, beside such as have one, and of such as may not be.
func TestGetOfNone(t *testing.T) {
	d := delta.New(9)
	wantPut(t, d, leads(entry(1, "a"), 2), api.OK)
	wantPut(t, d, file(record(2)), api.OK)
	wantPut(t, d, text(data(2, 1), 0, "a"), api.OK)
	for _, p := range []api.Place{record(1), entry(1, "b"), entry(1, "A"), entry(1, "aa"), entry(2, "a"), record(3), data(2, 0), data(2, 2), data(3, 1), data(1, 1)} {
		wantNone(t, d, p)
	}
	for _, p := range wrongPlaces() {
		wantNone(t, d, p)
	}
	wantGet(t, d, leads(entry(1, "a"), 2))
	wantGet(t, d, file(record(2)))
	wantGet(t, d, text(data(2, 1), 0, "a"))
}

// R4: what was told stays as it was told, whatever is put in and undone behind it; what is done to it changes nothing in the delta, and no two answers share memory.
func TestWhatWasToldIsTheCallers(t *testing.T) {
	d := delta.New(9)
	first := []api.Change{leads(entry(1, "a"), 2), file(record(2)), text(data(2, 1), 0, "abc")}
	for _, c := range first {
		wantPut(t, d, c, api.OK)
	}
	told, other := d.All(), d.All()
	got, _ := d.Get(data(2, 1))
	for _, c := range []api.Change{gone(entry(1, "a")), size(record(2), 9), text(data(2, 1), 1, "x"), file(record(1)), file(record(3))} {
		wantPut(t, d, c, api.OK)
	}
	if !slices.Equal(told, first) || got != first[2] {
		t.Errorf("what was told has become %+v, %+v", told, got)
	}
	wantUndo(t, d, 1, api.OK)
	wantPut(t, d, size(record(7), 9), api.OK)
	if !slices.Equal(told, first) || got != first[2] {
		t.Errorf("behind Undo what was told has become %+v, %+v", told, got)
	}
	scribble(told)
	got.Patch.Bytes[0], got.To = 'z', 9
	if !slices.Equal(other, first) {
		t.Errorf("another answer has become %+v", other)
	}
	wantAll(t, d, 2, first[0], size(record(7), 9))
	scribble(d.All())
	wantAll(t, d, 2, first[0], size(record(7), 9))
	wantUndo(t, d, 0, api.OK)
	wantAll(t, d, 0)
}

// scribble writes over a list and the spare room behind it.
func scribble(l []api.Change) {
	l = l[:cap(l)]
	for i := range l {
		l[i] = gone(record(99))
		l[i].Patch.Bytes[0] = 'z'
	}
}

// R4: what is handed in is the caller's own behind Put.
func TestWhatIsHandedInIsNotKept(t *testing.T) {
	d := delta.New(1)
	c := text(data(2, 1), 0, "abc")
	wantPut(t, d, c, api.OK)
	c.Patch.Bytes[0] = 'z'
	c.Place.Ino = 3
	wantAll(t, d, 1, text(data(2, 1), 0, "abc"))
}

// R5: two deltas have nothing in common.
func TestTwoDeltas(t *testing.T) {
	a, b := delta.New(2), delta.New(2)
	wantPut(t, a, file(record(2)), api.OK)
	wantAll(t, b, 0)
	wantPut(t, b, gone(record(2)), api.OK)
	wantPut(t, a, size(record(2), 1), api.OK)
	wantUndo(t, b, 0, api.OK)
	wantAll(t, a, 2, fresh(record(2), api.File, 6, 1, 1))
	wantAll(t, b, 0)
}
