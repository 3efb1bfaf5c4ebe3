package view_test

import (
	"slices"
	"testing"

	"armoire/api"
	"armoire/trunk"
	"armoire/view"
)

// P14.4: no change, no step; the base is not asked.
func TestStepsOfNone(t *testing.T) {
	for _, fault := range []api.Errno{api.OK, api.ErrDown} {
		b := named(1, "a")
		b.fault = fault
		wantSteps(t, b, nil)
		wantSteps(t, b, []api.Change{})
		if b.asked() != 0 {
			t.Errorf("the base was asked %d times", b.asked())
		}
	}
}

// P14.4: each change alone, upon something and upon nothing; the base is asked as Get asks it.
func TestStepsOfEachChange(t *testing.T) {
	for _, d := range deeds() {
		b, l := d.base(), []api.Change{d.change}
		switch {
		case d.err != api.OK:
			wantNoSteps(t, b, d.err, l...)
		case d.wrong:
			wantNoSteps(t, b, api.ErrForm, l...)
		case d.is:
			wantSteps(t, b, l, stepTo(d.change.Place, d.want))
		default:
			wantSteps(t, b, l, stepGone(d.change.Place))
		}
		var want []string
		if !d.all {
			want = []string{key(d.change.Place)}
		}
		if !slices.Equal(b.gets, want) || len(b.froms) != 0 {
			t.Errorf("%s: the base was asked for %q", d.name, b.gets)
		}
		if t.Failed() {
			t.Fatalf("that was %s", d.name)
		}
	}
}

// P14.4: changes of each part, in the order in which they are handed in, which need not be that of their places.
func TestSteps(t *testing.T) {
	b := storeOf(kv(record(1), inode(api.Dir, 0, 1, 0)), kv(entry(1, "a"), leadsTo(2)), kv(record(2), inode(api.File, 6, 1, 3)), kv(data(2, 0), bytesOf("xyz")))
	l := []api.Change{
		text(data(2, 0), 1, "Y"), size(record(2), 40), text(data(2, 1), 0, "n"), leads(entry(1, "b"), 2), mode(record(1), 5),
		gone(entry(1, "a")), gone(entry(1, "z")), fresh(record(9), inode(api.Dir, 1, 1, 0)), gone(data(2, 15)),
	}
	want := []trunk.Step{
		stepTo(data(2, 0), bytesOf("xYz")), stepTo(record(2), inode(api.File, 6, 1, 40)), stepTo(data(2, 1), bytesOf("n")), stepTo(entry(1, "b"), leadsTo(2)), stepTo(record(1), inode(api.Dir, 5, 1, 0)),
		stepGone(entry(1, "a")), stepGone(entry(1, "z")), stepTo(record(9), inode(api.Dir, 1, 1, 0)), stepGone(data(2, 15)),
	}
	for range l {
		wantSteps(t, b, l, want...)
		l, want = append(l[1:], l[0]), append(want[1:], want[0])
	}
	slices.Reverse(l)
	slices.Reverse(want)
	wantSteps(t, b, l, want...)
}

// wrongChanges are such as may not be.
func wrongChanges() []api.Change {
	l := []api.Change{{}, {Place: record(2)}, {Place: entry(1, "a")}, size(record(2), 513), link(record(2), 0), fields(record(2), 8, 0, 0, 0), fresh(record(2), inode(api.Dir, 6, 2, 0)), {Place: data(2, 0), Patch: api.Patch{Bytes: [api.Chunk]byte{1}}}, {Place: data(2, 0), Fresh: true}, {Place: record(2), Gone: true, Fresh: true}}
	for _, p := range wrongPlaces() {
		l = append(l, gone(p))
	}
	return l
}

// P14.4: Check's error comes ahead of all else: behind changes that may be, behind an error of the base, behind ErrState and ErrForm; the base is not asked.
func TestStepsOfWrongChanges(t *testing.T) {
	ahead := [][]api.Change{
		nil,
		{leads(entry(1, "b"), 2)},
		{gone(record(2)), size(record(2), 5), text(data(2, 0), 0, "a")},
		{size(record(7), 5)}, // no record
		{size(record(8), 5)}, // no item
		{link(record(1), 2)}, // may not be then
	}
	for _, fault := range []api.Errno{api.OK, api.ErrDown} {
		for _, wrong := range wrongChanges() {
			for _, l := range ahead {
				b := storeOf(kv(record(1), inode(api.Dir, 0, 1, 0)), kv(record(2), inode(api.File, 6, 1, 3)), api.KV{Key: key(record(8)), Value: "x"})
				b.fault = fault
				wantNoSteps(t, b, api.ErrArg, append(slices.Clone(l), wrong)...)
				wantNoSteps(t, b, api.ErrArg, append([]api.Change{wrong}, l...)...)
				wantNoSteps(t, b, api.ErrArg, slices.Concat(l, []api.Change{wrong}, l)...)
				if b.asked() != 0 {
					t.Errorf("the base was asked %d times", b.asked())
				}
			}
		}
	}
}

// P14.4: an error as Get has it ends it, wherever it stands: the first one in the order of the changes is told, and the base is not asked behind it.
func TestStepsOfWhatFails(t *testing.T) {
	b := storeOf(kv(record(1), inode(api.Dir, 0, 1, 0)), kv(record(2), inode(api.File, 6, 1, 3)), api.KV{Key: key(record(8)), Value: "x"}, api.KV{Key: key(data(8, 0)), Value: "x"})
	fails := []struct {
		change api.Change
		err    api.Errno
	}{
		{size(record(7), 5), api.ErrState},
		{size(record(8), 5), api.ErrForm},
		{text(data(8, 0), 0, "a"), api.ErrForm},
		{link(record(1), 2), api.ErrForm},
		{size(record(1), 1), api.ErrForm},
	}
	good := []api.Change{leads(entry(1, "b"), 2), size(record(2), 5), gone(record(9))}
	for _, x := range fails {
		wantNoSteps(t, b, x.err, x.change)
		for at := range len(good) + 1 {
			b.gets = nil
			wantNoSteps(t, b, x.err, slices.Insert(slices.Clone(good), at, x.change)...)
			if last := b.gets[len(b.gets)-1]; last != key(x.change.Place) {
				t.Errorf("the base was asked for % x behind the error", last)
			}
		}
		for _, y := range fails {
			wantNoSteps(t, b, x.err, x.change, y.change)
		}
	}
	wantSteps(t, b, good, stepTo(entry(1, "b"), leadsTo(2)), stepTo(record(2), inode(api.File, 6, 1, 5)), stepGone(record(9)))
}

// P14.4: an error of the base is handed on; it is not met where no change asks the base.
func TestStepsWhereTheBaseFails(t *testing.T) {
	for _, fault := range faults {
		for _, wild := range []bool{false, true} {
			for _, d := range deeds() {
				b := d.base()
				b.fault, b.wild = fault, wild
				l := []api.Change{gone(record(77)), d.change, leads(entry(5, "a"), 5)}
				switch {
				case !d.all:
					wantNoSteps(t, b, fault, l...)
				case d.is:
					wantSteps(t, b, l, stepGone(record(77)), stepTo(d.change.Place, d.want), stepTo(entry(5, "a"), leadsTo(5)))
				default:
					wantSteps(t, b, l, stepGone(record(77)), stepGone(d.change.Place), stepTo(entry(5, "a"), leadsTo(5)))
				}
			}
		}
	}
}

// P14.4: a value of the base that is no item does not matter where the change says all.
func TestStepsUponNoItem(t *testing.T) {
	for _, d := range deeds() {
		for _, wrong := range wrongValues(d.change.Place.Part) {
			b := storeOf(api.KV{Key: key(d.change.Place), Value: wrong})
			switch {
			case !d.all:
				wantNoSteps(t, b, api.ErrForm, d.change)
			case d.is:
				wantSteps(t, b, []api.Change{d.change}, stepTo(d.change.Place, d.want))
			default:
				wantSteps(t, b, []api.Change{d.change}, stepGone(d.change.Place))
			}
		}
	}
}

// P14.4: the changes of a view, upon another base than its own: fields and bytes that others wrote meanwhile stay.
func TestStepsOnAnotherBase(t *testing.T) {
	was := storeOf(kv(record(2), inode(api.File, 6, 1, 3)), kv(data(2, 0), bytesOf("xyz")), kv(entry(1, "a"), leadsTo(2)))
	now := storeOf(kv(record(2), inode(api.File, 7, 2, 4)), kv(data(2, 0), bytesOf("XyZ!")), kv(entry(1, "a"), leadsTo(3)), kv(data(2, 1), bytesOf("other")))
	l := []api.Change{size(record(2), 40), text(data(2, 0), 1, "Y"), text(data(2, 1), 0, "n"), gone(entry(1, "a"))}
	wantSteps(t, was, l, stepTo(record(2), inode(api.File, 6, 1, 40)), stepTo(data(2, 0), bytesOf("xYz")), stepTo(data(2, 1), bytesOf("n")), stepGone(entry(1, "a")))
	wantSteps(t, now, l, stepTo(record(2), inode(api.File, 7, 2, 40)), stepTo(data(2, 0), bytesOf("XYZ!")), stepTo(data(2, 1), bytesOf("nther")), stepGone(entry(1, "a")))
	wantNoSteps(t, storeOf(), api.ErrState, l...)
	wantNoSteps(t, storeOf(kv(record(2), inode(api.Dir, 0, 1, 0))), api.ErrForm, l...)
}

// P14.4: of several of one place each is done upon what the ones ahead of it have made; the base is asked no more.
func TestStepsOfOnePlace(t *testing.T) {
	r, e, d := record(2), entry(1, "a"), data(2, 0)
	b := storeOf(kv(r, inode(api.File, 6, 1, 3)), kv(e, leadsTo(2)), kv(d, bytesOf("xyz")))
	wantSteps(t, b, []api.Change{size(r, 5), mode(r, 7)}, stepTo(r, inode(api.File, 6, 1, 5)), stepTo(r, inode(api.File, 7, 1, 5)))
	wantSteps(t, b, []api.Change{text(d, 0, "X"), size(r, 5), text(d, 2, "Z")}, stepTo(d, bytesOf("Xyz")), stepTo(r, inode(api.File, 6, 1, 5)), stepTo(d, bytesOf("XyZ")))
	wantSteps(t, b, []api.Change{gone(d), text(d, 1, "Y")}, stepGone(d), stepTo(d, bytesOf("\x00Y")))
	wantSteps(t, b, []api.Change{gone(e), leads(e, 9), gone(e)}, stepGone(e), stepTo(e, leadsTo(9)), stepGone(e))
	wantNoSteps(t, b, api.ErrState, gone(r), size(r, 5))
	dir := inode(api.Dir, 0, 1, 0)
	wantNoSteps(t, b, api.ErrForm, fresh(r, dir), link(r, 2))
	none := storeOf()
	none.fault = api.ErrDown
	wantSteps(t, none, []api.Change{fresh(r, dir), mode(r, 5)}, stepTo(r, dir), stepTo(r, inode(api.Dir, 5, 1, 0)))
	if none.asked() != 0 {
		t.Errorf("the base was asked %d times", none.asked())
	}
}

// R4, R5: what is handed in is not changed, nor the spare room behind it; what was told is one's own.
func TestStepsAreOnesOwn(t *testing.T) {
	b := storeOf(kv(record(2), inode(api.File, 6, 1, 3)))
	l := []api.Change{size(record(2), 5), leads(entry(1, "a"), 2), gone(record(9)), mode(record(3), 7)}
	was := slices.Clone(l)
	want := []trunk.Step{stepTo(record(2), inode(api.File, 6, 1, 5)), stepTo(entry(1, "a"), leadsTo(2))}
	first, err := view.Steps(b, l[:2])
	if !slices.Equal(first, want) || err != api.OK || !slices.Equal(l, was) {
		t.Fatalf("got %+v, %d; the changes are %+v", first, err, l)
	}
	second, _ := view.Steps(b, l[:2])
	l[0].Inode.Size = 9
	clear(second[:cap(second)])
	if !slices.Equal(first, want) {
		t.Errorf("got %+v", first)
	}
	b.pairs = nil
	if !slices.Equal(first, want) {
		t.Errorf("got %+v", first)
	}
	wantNoSteps(t, b, api.ErrState, l[:2]...)
	clear(first[:cap(first)])
	wantSteps(t, storeOf(kv(record(2), inode(api.File, 6, 1, 3))), was[:2], want...)
}
