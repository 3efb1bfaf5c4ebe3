package view_test

import (
	"slices"
	"testing"

	"armoire/api"
	"armoire/delta"
	"armoire/item"
	"armoire/view"
)

// P14.2: ErrPlace ahead of all else; the base is not asked.
func TestGetOfWrongPlaces(t *testing.T) {
	for _, fault := range []api.Errno{api.OK, api.ErrDown} {
		b := storeOf(kv(record(1), inode(api.Dir, 0, 1, 0)), api.KV{Key: "", Value: "x"}, api.KV{Key: string(make([]byte, api.MaxKey)), Value: "x"})
		b.fault = fault
		v := viewOf(t, b, leads(entry(1, "a"), 2), gone(record(1)))
		for _, p := range wrongPlaces() {
			wantNone(t, v, p, api.ErrPlace)
		}
		if b.asked() != 0 {
			t.Errorf("the base was asked %d times", b.asked())
		}
	}
}

// P14.2: places that neither has, that the base alone has, that the delta alone has; and their neighbours.
func TestGet(t *testing.T) {
	file, dir := inode(api.File, 6, 1, 3), inode(api.Dir, 511, 1, 0)
	b := storeOf(kv(record(1), dir), kv(entry(1, "a"), leadsTo(2)), kv(entry(1, "abcdefgh"), leadsTo(3)), kv(record(2), file), kv(data(2, 0), bytesOf("xyz")), kv(data(2, 15), bytesOf("")))
	v := viewOf(t, b, fresh(record(9), dir), leads(entry(1, "b"), 9), text(data(9, 3), 0, "n"))
	wantGet(t, v, record(1), dir)
	wantGet(t, v, entry(1, "a"), leadsTo(2))
	wantGet(t, v, entry(1, "abcdefgh"), leadsTo(3))
	wantGet(t, v, record(2), file)
	wantGet(t, v, data(2, 0), bytesOf("xyz"))
	wantGet(t, v, data(2, 15), bytesOf(""))
	wantGet(t, v, record(9), dir)
	wantGet(t, v, entry(1, "b"), leadsTo(9))
	wantGet(t, v, data(9, 3), bytesOf("n"))
	for _, p := range []api.Place{record(3), record(1 << 24), record(1<<32 - 1), entry(1, "c"), entry(1, "abcdefg"), entry(2, "a"), entry(9, "b"), data(2, 1), data(2, 14), data(1, 0), data(9, 2)} {
		wantNone(t, v, p, api.OK)
	}
}

// P14.2: each kind of change, upon something and upon nothing; what stands there is shown, also if it may not be.
func TestGetOfEachChange(t *testing.T) {
	for _, d := range deeds() {
		b := d.base()
		v := viewOf(t, b, d.change)
		x, is, err := v.Get(d.change.Place)
		if x != d.want || is != d.is || err != d.err {
			t.Errorf("%s: Get: got %+v, %v, %d; want %+v, %v, %d", d.name, x, is, err, d.want, d.is, d.err)
		}
		// R5: once more the same.
		if again, isAgain, errAgain := v.Get(d.change.Place); again != x || isAgain != is || errAgain != err {
			t.Errorf("%s: Get again: got %+v, %v, %d", d.name, again, isAgain, errAgain)
		}
		// Its neighbours are as they were.
		wantGet(t, v, entry(1, "b"), leadsTo(91))
		wantGet(t, v, data(2, 0), bytesOf("ahead"))
		wantGet(t, v, record(3), inode(api.File, 1, 3, 9))
	}
}

// P14.2: the base is asked for the place's key, and not where the change says all.
func TestGetAsksTheBase(t *testing.T) {
	for _, d := range deeds() {
		b := d.base()
		viewOf(t, b, d.change).Get(d.change.Place)
		var want []string
		if !d.all {
			want = []string{key(d.change.Place)}
		}
		if !slices.Equal(b.gets, want) || len(b.froms) != 0 {
			t.Errorf("%s: the base was asked for %q", d.name, b.gets)
		}
	}
	for _, p := range []api.Place{record(2), entry(1, "a"), data(2, 1)} {
		b := storeOf()
		viewOf(t, b).Get(p)
		if !slices.Equal(b.gets, []string{key(p)}) {
			t.Errorf("%+v: the base was asked for %q", p, b.gets)
		}
	}
}

// P14.2: an error of the base is handed on, ahead of ErrState and ErrForm; it is not met where the base is not asked.
func TestGetWhereTheBaseFails(t *testing.T) {
	for _, fault := range faults {
		for _, wild := range []bool{false, true} {
			for _, d := range deeds() {
				b := d.base()
				b.fault, b.wild = fault, wild
				v := viewOf(t, b, d.change)
				switch {
				case !d.all:
					wantNone(t, v, d.change.Place, fault)
				case d.is:
					wantGet(t, v, d.change.Place, d.want)
				default:
					wantNone(t, v, d.change.Place, api.OK)
				}
			}
			b := storeOf(kv(record(2), inode(api.File, 6, 1, 0)))
			b.fault, b.wild = fault, wild
			for _, p := range []api.Place{record(2), record(3), entry(1, "a"), data(2, 0)} {
				wantNone(t, viewOf(t, b), p, fault)
			}
		}
	}
}

// P14.2: ErrForm, if what the base has there is no item of that part; not where the base is not asked.
func TestGetOfNoItem(t *testing.T) {
	for _, p := range []api.Place{record(2), entry(1, "a"), data(2, 1)} {
		for _, wrong := range wrongValues(p.Part) {
			b := storeOf(api.KV{Key: key(p), Value: wrong}, kv(record(3), inode(api.File, 6, 1, 0)))
			wantNone(t, viewOf(t, b), p, api.ErrForm)
			wantGet(t, viewOf(t, b), record(3), inode(api.File, 6, 1, 0))
		}
	}
	for _, d := range deeds() {
		for _, wrong := range wrongValues(d.change.Place.Part) {
			v := viewOf(t, storeOf(api.KV{Key: key(d.change.Place), Value: wrong}), d.change)
			switch {
			case !d.all:
				wantNone(t, v, d.change.Place, api.ErrForm)
			case d.is:
				wantGet(t, v, d.change.Place, d.want)
			default:
				wantNone(t, v, d.change.Place, api.OK)
			}
		}
	}
}

// P14.2: a value beside which the base says that there is none is none.
func TestGetOfAValueThatIsNotThere(t *testing.T) {
	b := storeOf()
	b.wild = true
	wantNone(t, viewOf(t, b), entry(1, "a"), api.OK)
	wantNone(t, viewOf(t, b), record(1), api.OK)
	wantNone(t, viewOf(t, b, mode(record(1), 1)), record(1), api.ErrState)
	wantGet(t, viewOf(t, b, text(data(1, 1), 0, "a")), data(1, 1), bytesOf("a"))
}

// P14.1: both are kept: what is done to them later is seen.
func TestNewKeepsBoth(t *testing.T) {
	b, d := storeOf(), delta.New(9)
	v := view.New(b, d)
	wantNone(t, v, record(2), api.OK)
	b.pairs = []api.KV{kv(record(2), inode(api.File, 6, 1, 0))}
	wantGet(t, v, record(2), inode(api.File, 6, 1, 0))
	mark := d.Mark()
	if err := d.Put(size(record(2), 5)); err != api.OK {
		t.Errorf("Put: got %d", err)
	}
	wantGet(t, v, record(2), inode(api.File, 6, 1, 5))
	wantPut(t, v, leads(entry(1, "a"), 2), api.OK)
	if c, is := d.Get(entry(1, "a")); c != leads(entry(1, "a"), 2) || !is || d.Count() != 2 || d.Mark() != 2 {
		t.Errorf("the delta has %+v, %v", c, is)
	}
	wantNames(t, v, 1, api.OK, "a")
	// Two views of one delta.
	other := view.New(storeOf(), d)
	wantGet(t, other, entry(1, "a"), leadsTo(2))
	wantNone(t, other, record(2), api.ErrState)
	if err := d.Undo(mark); err != api.OK {
		t.Errorf("Undo: got %d", err)
	}
	wantGet(t, v, record(2), inode(api.File, 6, 1, 0))
	wantNone(t, v, entry(1, "a"), api.OK)
	wantNames(t, v, 1, api.OK)
}

// P14.1: Put's errors are the delta's, whatever the base has; nothing changes, and the base is not asked.
func TestPut(t *testing.T) {
	b := storeOf(kv(record(2), inode(api.File, 6, 1, 0)), kv(record(3), inode(api.Dir, 6, 1, 0)))
	d := delta.New(3)
	v := view.New(b, d)
	for _, p := range wrongPlaces() {
		wantPut(t, v, gone(p), api.ErrArg)
	}
	wantPut(t, v, api.Change{}, api.ErrArg)
	wantPut(t, v, api.Change{Place: record(2)}, api.ErrArg)
	wantPut(t, v, size(record(2), 513), api.ErrArg)
	wantPut(t, v, leads(entry(1, "a"), 0), api.ErrArg)
	wantPut(t, v, gone(record(2)), api.OK)
	wantPut(t, v, size(record(2), 5), api.ErrState)
	wantPut(t, v, link(record(3), 2), api.OK)
	wantPut(t, v, fresh(record(3), inode(api.Dir, 1, 1, 0)), api.OK)
	wantPut(t, v, link(record(3), 2), api.ErrArg)
	wantPut(t, v, size(record(9), 5), api.OK)
	wantPut(t, v, leads(entry(1, "a"), 2), api.ErrTooBig)
	if b.asked() != 0 || d.Count() != 3 || d.Mark() != 4 {
		t.Errorf("the base was asked %d times; the delta has %+v", b.asked(), d.All())
	}
	wantNone(t, v, record(2), api.OK)
	wantGet(t, v, record(3), inode(api.Dir, 1, 1, 0))
	wantNone(t, v, record(9), api.ErrState)
	wantNone(t, v, entry(1, "a"), api.OK)
	wantNames(t, v, 1, api.OK)
}

// P14.2: what was told is not changed by what is done later, nor is the base or the delta by what is done to it.
func TestGetIsOnesOwn(t *testing.T) {
	b := storeOf(kv(data(2, 0), bytesOf("xyz")))
	v := viewOf(t, b, text(data(2, 0), 1, "Y"))
	x, _, _ := v.Get(data(2, 0))
	wantPut(t, v, text(data(2, 0), 0, "X"), api.OK)
	if x != bytesOf("xYz") {
		t.Errorf("got %q", x.Bytes)
	}
	x.Bytes[2] = 'Z'
	wantGet(t, v, data(2, 0), bytesOf("XYz"))
	if b.pairs[0] != kv(data(2, 0), bytesOf("xyz")) {
		t.Errorf("the base has %q", b.pairs)
	}
	var zero item.Item
	wantPut(t, v, gone(data(2, 0)), api.OK)
	if y, is, err := v.Get(data(2, 0)); y != zero || is || err != api.OK {
		t.Errorf("got %+v, %v, %d", y, is, err)
	}
}
