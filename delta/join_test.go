package delta_test

import (
	"math/rand"
	"testing"

	"armoire/api"
	"armoire/delta"
)

// P13.2: what the document names, one by one.
func TestJoinByName(t *testing.T) {
	r, e, d := record(2), entry(1, "a"), data(2, 1)
	dir := fresh(r, api.Dir, 6, 1, 0)
	for _, x := range []struct{ a, b, want api.Change }{
		{file(r), gone(r), gone(r)},
		{size(r, 5), gone(r), gone(r)},
		{gone(r), gone(r), gone(r)},
		{gone(r), file(r), file(r)},
		{size(r, 5), file(r), file(r)},
		{dir, file(r), file(r)},
		{file(r), size(r, 5), fresh(r, api.File, 6, 1, 5)},
		{fresh(r, api.File, 6, 2, 7), named(r, 7, 0, 1, 0), fresh(r, api.File, 0, 1, 0)},
		{dir, mode(r, 511), fresh(r, api.Dir, 511, 1, 0)},
		{dir, named(r, 7, 1, 1, 0), fresh(r, api.Dir, 1, 1, 0)},
		{size(r, 7), mode(r, 6), fields(r, 5, 6, 0, 7)},
		{size(r, 7), size(r, 0), size(r, 0)},
		{fields(r, 3, 1, 2, 0), fields(r, 6, 0, 3, 4), fields(r, 7, 1, 3, 4)},
		{leads(e, 2), leads(e, 3), leads(e, 3)},
		{gone(e), leads(e, 3), leads(e, 3)},
		{leads(e, 3), gone(e), gone(e)},
		{text(d, 0, "a"), text(d, 1, "b"), text(d, 0, "ab")},
		{text(d, 0, "abc"), text(d, 1, "\x00"), text(d, 0, "a\x00c")},
		{text(d, 0, "abc"), text(d, 0, ""), text(d, 0, "abc")},
		{anew(text(d, 0, "ab")), text(d, 1, "c"), anew(text(d, 0, "ac"))},
		{text(d, 0, "ab"), anew(text(d, 1, "c")), anew(text(d, 1, "c"))},
		{anew(text(d, 0, "ab")), anew(text(d, 0, "")), anew(text(d, 0, ""))},
		{gone(d), text(d, 31, "b"), anew(text(d, 31, "b"))},
		{gone(d), anew(text(d, 31, "b")), anew(text(d, 31, "b"))},
		{gone(d), text(d, 0, ""), anew(text(d, 0, ""))},
		{text(d, 0, "ab"), gone(d), gone(d)},
		{gone(d), gone(d), gone(d)},
	} {
		wantJoin(t, x.a, x.b, x.want, api.OK)
	}
}

// P13.2: gone, and then fields.
func TestJoinOfGoneAndFields(t *testing.T) {
	for _, b := range recordChanges(record(2)) {
		if b.Fields != 0 {
			wantJoin(t, gone(record(2)), b, api.Change{}, api.ErrState)
		}
	}
}

// P13.2: a Fresh directory with fields that only a file has.
func TestJoinOfDirectories(t *testing.T) {
	r := record(2)
	dir := fresh(r, api.Dir, 6, 1, 0)
	for _, b := range []api.Change{
		link(r, 2), link(r, 15), size(r, 1), size(r, 512),
		fields(r, 3, 1, 2, 0), fields(r, 6, 0, 2, 0), fields(r, 6, 0, 1, 1), fields(r, 7, 1, 2, 3), fields(r, 5, 1, 0, 1),
	} {
		wantJoin(t, dir, b, api.Change{}, api.ErrArg)
	}
	for _, b := range []api.Change{link(r, 1), size(r, 0), fields(r, 6, 0, 1, 0)} {
		wantJoin(t, dir, b, dir, api.OK)
	}
}

// P13.2: each change with each of the same place.
func TestJoinOfEachWithEach(t *testing.T) {
	for _, l := range [][]api.Change{recordChanges(record(2)), entryChanges(entry(1, "a")), dataChanges(data(2, 1))} {
		for _, a := range l {
			for _, b := range l {
				want, wantErr := joined(a, b)
				wantJoin(t, a, b, want, wantErr)
			}
		}
	}
}

// P13.2: two places, each of which may be; ahead of ErrState, too.
func TestJoinOfTwoPlaces(t *testing.T) {
	for _, p := range somePlaces() {
		for _, q := range somePlaces() {
			wantErr := api.OK
			want := gone(p)
			if p != q {
				want, wantErr = api.Change{}, api.ErrArg
			}
			wantJoin(t, gone(p), gone(q), want, wantErr)
		}
	}
	for _, x := range [][2]api.Change{
		{file(record(2)), size(record(3), 5)},
		{gone(record(2)), size(record(3), 5)},
		{leads(entry(1, "a"), 2), leads(entry(1, "b"), 2)},
		{leads(entry(1, "a"), 2), leads(entry(2, "a"), 2)},
		{text(data(2, 1), 0, "a"), text(data(2, 2), 0, "a")},
		{text(data(2, 0), 0, "a"), file(record(2))},
		{file(record(2)), text(data(2, 0), 0, "a")},
		{file(record(1)), leads(entry(1, "a"), 2)},
	} {
		wantJoin(t, x[0], x[1], api.Change{}, api.ErrArg)
	}
}

// P13.2: one that may not be, on either side and on both; ahead of ErrState, too.
func TestJoinOfWrongOnes(t *testing.T) {
	for _, first := range someChanges() {
		for _, change := range also() {
			wrong := first
			change(&wrong)
			if mayBe(wrong) {
				continue
			}
			for _, right := range []api.Change{first, gone(first.Place)} {
				wantJoin(t, wrong, right, api.Change{}, api.ErrArg)
				wantJoin(t, right, wrong, api.Change{}, api.ErrArg)
			}
			wantJoin(t, wrong, wrong, api.Change{}, api.ErrArg)
		}
	}
	for _, p := range wrongPlaces() {
		wantJoin(t, gone(p), gone(p), api.Change{}, api.ErrArg)
		wantJoin(t, gone(p), gone(record(1)), api.Change{}, api.ErrArg)
		wantJoin(t, gone(record(1)), gone(p), api.Change{}, api.ErrArg)
	}
	wantJoin(t, gone(record(2)), size(record(2), 513), api.Change{}, api.ErrArg)
	wantJoin(t, gone(record(2)), fields(record(2), 8, 0, 0, 0), api.Change{}, api.ErrArg)
	wantJoin(t, api.Change{}, api.Change{}, api.Change{}, api.ErrArg)
}

// thing is what stands at a place.
type thing struct {
	is    bool
	inode api.Inode
	to    uint32
	bytes chunk
}

// done is what becomes of a thing by a change: false, if fields are set of a record that is not there, or such as a directory does not have.
func done(x thing, c api.Change) (thing, bool) {
	i := c.Inode
	switch {
	case c.Gone:
		return thing{}, true
	case c.Place.Part == api.Entry:
		return thing{is: true, to: c.To}, true
	case c.Place.Part == api.Data:
		return thing{is: true, bytes: laid(x.bytes, c.Patch)}, true
	case c.Fresh:
		return thing{is: true, inode: i}, true
	}
	if c.Fields%2 == 1 {
		x.inode.Mode = i.Mode
	}
	if c.Fields/2%2 == 1 {
		x.inode.Links = i.Links
	}
	if c.Fields/4 == 1 {
		x.inode.Size = i.Size
	}
	return x, x.is && (x.inode.Kind == api.File || x.inode.Links == 1 && x.inode.Size == 0)
}

func laid(bytes chunk, p api.Patch) chunk {
	for i := range bytes {
		switch {
		case isSet(p.Mask, i):
			bytes[i] = p.Bytes[i]
		case p.Fresh:
			bytes[i] = 0
		}
	}
	return bytes
}

func someThings(part int) []thing {
	switch part {
	case api.Record:
		return []thing{{}, {is: true, inode: api.Inode{Kind: api.File, Mode: 3, Links: 4, Size: 5}}, {is: true, inode: api.Inode{Kind: api.Dir, Mode: 3, Links: 1}}}
	case api.Entry:
		return []thing{{}, {is: true, to: 77}}
	}
	return []thing{{}, {is: true}, {is: true, bytes: numbered(150)}}
}

// wantDoes: what is joined does what both do, one behind the other, wherever both may be done.
func wantDoes(t *testing.T, a, b api.Change) {
	t.Helper()
	j, err := delta.Join(a, b)
	if err == api.OK {
		wantCheck(t, j, api.OK)
	}
	for _, x := range someThings(a.Place.Part) {
		behindA, isA := done(x, a)
		want, isB := done(behindA, b)
		if !isA {
			continue
		}
		if isB && err != api.OK {
			t.Errorf("Join(%+v, %+v): got %d, but both may be done", a, b, err)
		}
		if got, _ := done(x, j); isB && got != want {
			t.Errorf("Join(%+v, %+v) makes of %+v: %+v, want %+v", a, b, x, got, want)
		}
	}
}

// wantAnyTwoFirst: which two of three are joined first does not matter.
func wantAnyTwoFirst(t *testing.T, a, b, c api.Change) {
	t.Helper()
	ab, errAB := delta.Join(a, b)
	bc, errBC := delta.Join(b, c)
	if errAB != api.OK || errBC != api.OK {
		return
	}
	want, wantErr := delta.Join(ab, c)
	wantJoin(t, a, bc, want, wantErr)
}

// P13.5: what is joined does what both do, of each with each.
func TestJoinedDoesWhatBothDo(t *testing.T) {
	for _, l := range [][]api.Change{recordChanges(record(2)), entryChanges(entry(1, "a")), dataChanges(data(2, 1))} {
		for _, a := range l {
			for _, b := range l {
				wantDoes(t, a, b)
			}
		}
	}
}

// P13.5: the same of some of everything, and of three.
func TestJoinedOfEverything(t *testing.T) {
	r := rand.New(rand.NewSource(13))
	for range 3000 {
		p := somePlaces()[r.Intn(len(somePlaces()))]
		a, b, c := anyChange(r, p), anyChange(r, p), anyChange(r, p)
		wantDoes(t, a, b)
		wantAnyTwoFirst(t, a, b, c)
	}
}
