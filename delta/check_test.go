package delta_test

import (
	"math"
	"testing"

	"armoire/api"
)

// P13.1: a change of each part, and gone of each.
func TestCheckOfEachPart(t *testing.T) {
	for _, p := range somePlaces() {
		wantCheck(t, gone(p), api.OK)
	}
	for _, c := range someChanges() {
		wantCheck(t, c, api.OK)
	}
	for _, c := range []api.Change{
		file(record(2)), fresh(record(2), api.Dir, 511, 1, 0), fresh(record(1), api.File, 0, 15, 512),
		mode(record(2), 0), mode(record(2), 511), link(record(2), 1), link(record(2), 15), size(record(2), 0), size(record(2), 512),
		leads(entry(1, "a"), 1), leads(entry(1, "a"), math.MaxUint32),
		text(data(2, 0), 0, ""), text(data(2, 15), 30, "ab"), anew(text(data(2, 15), 0, "")), anew(text(data(2, 15), 31, "a")),
	} {
		wantCheck(t, c, api.OK)
	}
}

// P13.1: a place that may not be, with what would be a change elsewhere.
func TestCheckOfWrongPlaces(t *testing.T) {
	for _, p := range wrongPlaces() {
		for _, c := range append(someChanges(), api.Change{}) {
			c.Place = p
			wantCheck(t, c, api.ErrArg)
		}
	}
}

// P13.1: what is a change of one part is none of another, but gone.
func TestCheckOfOtherParts(t *testing.T) {
	for _, p := range []api.Place{record(2), entry(1, "a"), data(2, 1)} {
		for _, c := range someChanges() {
			c.Place = p
			want := api.ErrArg
			if mayBe(c) {
				want = api.OK
			}
			wantCheck(t, c, want)
		}
	}
	wantCheck(t, leads(record(2), 3), api.ErrArg)
	wantCheck(t, leads(data(2, 1), 3), api.ErrArg)
	wantCheck(t, file(entry(1, "a")), api.ErrArg)
	wantCheck(t, size(data(2, 1), 5), api.ErrArg)
	wantCheck(t, text(record(2), 0, "a"), api.ErrArg)
	wantCheck(t, text(entry(1, "a"), 0, "a"), api.ErrArg)
}

// also is each way in which one more field of a change is not zero.
func also() []func(c *api.Change) {
	return []func(c *api.Change){
		func(c *api.Change) { c.Gone = true },
		func(c *api.Change) { c.Fresh = true },
		func(c *api.Change) { c.Fields |= 1 },
		func(c *api.Change) { c.Fields |= 2 },
		func(c *api.Change) { c.Fields |= 4 },
		func(c *api.Change) { c.Fields |= 8 },
		func(c *api.Change) { c.Fields |= math.MinInt },
		func(c *api.Change) { c.Inode.Kind = api.File },
		func(c *api.Change) { c.Inode.Kind = api.Dir },
		func(c *api.Change) { c.Inode.Kind = -1 },
		func(c *api.Change) { c.Inode.Mode = 1 },
		func(c *api.Change) { c.Inode.Links = 1 },
		func(c *api.Change) { c.Inode.Size = 1 },
		func(c *api.Change) { c.To = 1 },
		func(c *api.Change) { c.Patch.Fresh = true },
		func(c *api.Change) { c.Patch.Mask = 1 },
		func(c *api.Change) { c.Patch.Bytes[0] = 1 },
		func(c *api.Change) { c.Patch.Bytes[31] = 1 },
	}
}

// P13.1: each field that must be zero, not zero; and each two of them. A change without anything, and gone with each of them, are among these.
func TestCheckOfOtherFields(t *testing.T) {
	for _, first := range append(someChanges(), api.Change{Place: record(2)}, api.Change{Place: entry(1, "a")}, api.Change{Place: data(2, 1)}) {
		for _, change := range also() {
			one := first
			change(&one)
			wantMayBe(t, one)
			for _, change := range also() {
				two := one
				change(&two)
				wantMayBe(t, two)
			}
		}
	}
}

func wantMayBe(t *testing.T, c api.Change) {
	t.Helper()
	if mayBe(c) {
		wantCheck(t, c, api.OK)
	} else {
		wantCheck(t, c, api.ErrArg)
	}
}

// P13.1: gone with something besides, of each part.
func TestCheckOfGoneWithMore(t *testing.T) {
	for _, p := range []api.Place{record(2), entry(1, "a"), data(2, 1)} {
		for i, change := range also() {
			c := gone(p)
			change(&c)
			if i > 0 {
				wantCheck(t, c, api.ErrArg)
			}
		}
	}
	for _, c := range someChanges() {
		if !c.Gone && c != (api.Change{Place: c.Place}) {
			c.Gone = true
			wantCheck(t, c, api.ErrArg)
		}
	}
}

// P13.1: the Inode of a Fresh record and the fields of another one, with Mode, Links and Size at their limits and beyond; Fields that is a sum of none, of some, of more than there are, or below 0.
func TestCheckOfInodes(t *testing.T) {
	for _, kind := range kinds {
		for _, m := range modes {
			for _, n := range links {
				for _, s := range sizes {
					c := fresh(record(2), kind, m, n, s)
					wantMayBe(t, c)
					c.Fresh = false
					for _, sum := range sums {
						c.Fields = sum
						wantMayBe(t, c)
					}
				}
			}
		}
	}
}

// P13.1: the fields that Fields names, at their limits and beyond, the others 0.
func TestCheckOfFields(t *testing.T) {
	for _, sum := range sums {
		want := api.ErrArg
		if sum >= 1 && sum <= 7 {
			want = api.OK
		}
		wantCheck(t, named(record(2), sum, 511, 15, 512), want)
		wantCheck(t, named(record(2), sum, 0, 1, 0), want)
	}
	for _, sum := range []int{1, 2, 3, 4, 5, 6, 7} {
		for _, m := range modes {
			for _, n := range links {
				for _, s := range sizes {
					wantMayBe(t, named(record(2), sum, m, n, s))
				}
			}
		}
	}
	for _, c := range []api.Change{
		mode(record(2), -1), mode(record(2), 512), link(record(2), 0), link(record(2), 16), size(record(2), -1), size(record(2), 513),
		fields(record(2), api.SetMode, 0, 1, 0), fields(record(2), api.SetMode, 0, 0, 1), fields(record(2), api.SetLinks, 1, 1, 0), fields(record(2), api.SetSize, 0, 1, 1),
	} {
		wantCheck(t, c, api.ErrArg)
	}
}

// P13.1: an entry that leads to 0.
func TestCheckOfEntries(t *testing.T) {
	for _, name := range []string{"a", "abcdefgh", "\xff", "..."} {
		wantCheck(t, leads(entry(1, name), 0), api.ErrArg)
		wantCheck(t, leads(entry(1, name), 1), api.OK)
	}
}

// P13.1: a patch with a byte that is not 0, at each position, with and without its bit.
func TestCheckOfPatches(t *testing.T) {
	for i := range api.Chunk {
		for _, isFresh := range []bool{false, true} {
			bit := uint32(1) << i
			c := api.Change{Place: data(2, 1), Patch: api.Patch{Fresh: isFresh, Mask: bit}}
			wantCheck(t, c, api.OK)
			c.Patch.Bytes[i] = 1
			wantCheck(t, c, api.OK)
			for _, mask := range []uint32{0, ^bit, bit << 1, bit >> 1} {
				c.Patch.Mask = mask
				wantCheck(t, c, api.ErrArg)
			}
		}
	}
}
