package delta_test

import (
	"math"
	"math/rand"
	"slices"
	"testing"

	"armoire/api"
	"armoire/delta"
)

type chunk = [api.Chunk]byte

// Fields of an inode: the edges that the document names, and what is taken for them if only some of its bits are looked at.
var (
	kinds = []int{math.MinInt, -1, api.NoKind, api.File, api.Dir, 3, 256 + api.File, 1<<32 + api.Dir, math.MaxInt}
	modes = []int{math.MinInt, -1, 0, 1, 6, 510, 511, 512, 65536 + 6, 1 << 32, math.MaxInt}
	links = []int{math.MinInt, -1, 0, 1, 2, 14, 15, 16, 256 + 1, 1<<32 + 1, math.MaxInt}
	sizes = []int{math.MinInt, -1, 0, 1, 32, 511, 512, 513, 65536 + 1, 1<<32 + 1, math.MaxInt}
	sums  = []int{math.MinInt, math.MinInt + 1, -8, -7, -4, -3, -2, -1, 0, 1, 2, 3, 4, 5, 6, 7, 8, 9, 12, 15, 16, 256 + 1, 1 << 32, 1<<32 + 7, math.MaxInt}
)

func record(ino uint32) api.Place { return api.Place{Ino: ino, Part: api.Record} }

func entry(ino uint32, name string) api.Place {
	return api.Place{Ino: ino, Part: api.Entry, Name: name}
}

func data(ino, n uint32) api.Place { return api.Place{Ino: ino, Part: api.Data, Chunk: n} }

func gone(p api.Place) api.Change { return api.Change{Place: p, Gone: true} }

func fresh(p api.Place, kind, mode, links, size int) api.Change {
	return api.Change{Place: p, Fresh: true, Inode: api.Inode{Kind: kind, Mode: mode, Links: links, Size: size}}
}

func file(p api.Place) api.Change { return fresh(p, api.File, 6, 1, 0) }

func fields(p api.Place, sum, mode, links, size int) api.Change {
	return api.Change{Place: p, Fields: sum, Inode: api.Inode{Mode: mode, Links: links, Size: size}}
}

func mode(p api.Place, n int) api.Change { return fields(p, api.SetMode, n, 0, 0) }

func link(p api.Place, n int) api.Change { return fields(p, api.SetLinks, 0, n, 0) }

func size(p api.Place, n int) api.Change { return fields(p, api.SetSize, 0, 0, n) }

func leads(p api.Place, to uint32) api.Change { return api.Change{Place: p, To: to} }

// text is a change of a chunk that lays text from the byte off on.
func text(p api.Place, off int, text string) api.Change {
	c := api.Change{Place: p}
	for i := range len(text) {
		c.Patch.Mask |= 1 << (off + i)
		c.Patch.Bytes[off+i] = text[i]
	}
	return c
}

func anew(c api.Change) api.Change {
	c.Patch.Fresh = true
	return c
}

// numbered are bytes of which none is 0 and no two are alike.
func numbered(first byte) chunk {
	var c chunk
	for i := range c {
		c[i] = first + byte(i)
	}
	return c
}

// masked is a change of a chunk with those bytes where the mask has a bit.
func masked(p api.Place, isFresh bool, mask uint32, bytes chunk) api.Change {
	c := api.Change{Place: p, Patch: api.Patch{Fresh: isFresh, Mask: mask}}
	for i := range bytes {
		if isSet(mask, i) {
			c.Patch.Bytes[i] = bytes[i]
		}
	}
	return c
}

func isSet(mask uint32, i int) bool { return mask&(1<<i) != 0 }

// Changes of each kind that may be, of one place of each part.
func recordChanges(p api.Place) []api.Change {
	l := []api.Change{gone(p)}
	for _, kind := range []int{api.File, api.Dir} {
		for _, m := range []int{0, 6, 511} {
			l = append(l, fresh(p, kind, m, 1, 0))
		}
	}
	l = append(l, fresh(p, api.File, 1, 2, 3), fresh(p, api.File, 511, 15, 512))
	for _, m := range []int{0, 7, 511} {
		for _, n := range []int{1, 2, 15} {
			for _, s := range []int{0, 1, 512} {
				for sum := 1; sum <= 7; sum++ {
					l = append(l, named(p, sum, m, n, s))
				}
			}
		}
	}
	return l
}

// named is a change of those fields that sum names, the others 0.
func named(p api.Place, sum, mode, links, size int) api.Change {
	c := api.Change{Place: p, Fields: sum}
	if slices.Contains([]int{1, 3, 5, 7}, sum) {
		c.Inode.Mode = mode
	}
	if slices.Contains([]int{2, 3, 6, 7}, sum) {
		c.Inode.Links = links
	}
	if slices.Contains([]int{4, 5, 6, 7}, sum) {
		c.Inode.Size = size
	}
	return c
}

func entryChanges(p api.Place) []api.Change {
	l := []api.Change{gone(p)}
	for _, to := range []uint32{1, 2, 255, 256, 1 << 31, math.MaxUint32} {
		l = append(l, leads(p, to))
	}
	return l
}

func dataChanges(p api.Place) []api.Change {
	l := []api.Change{gone(p)}
	for i, mask := range []uint32{0, math.MaxUint32, 1, 2, 1 << 31, 0x80000001, 0x0000ffff, 0x00ffff00, 0xffff0000, 0x55555555, 0xaaaaaaaa} {
		for _, isFresh := range []bool{false, true} {
			l = append(l,
				masked(p, isFresh, mask, numbered(byte(1+20*i))),
				masked(p, isFresh, mask, chunk{}),
			)
		}
	}
	return l
}

// someChanges are some of every part, each of which may be.
func someChanges() []api.Change {
	return slices.Concat(recordChanges(record(2)), entryChanges(entry(1, "a")), dataChanges(data(2, 1)))
}

// somePlaces may be, in the order in which they stand.
func somePlaces() []api.Place {
	return []api.Place{
		record(1), entry(1, "\x01"), entry(1, ".a"), entry(1, "a"), entry(1, "a\x01"), entry(1, "aa"), entry(1, "b"), entry(1, "b\xff"), entry(1, "\xff\xff\xff\xff\xff\xff\xff\xff"), data(1, 0), data(1, 15),
		record(2), entry(2, "Z"), entry(2, "abcdefgh"), entry(2, "z"), data(2, 0), data(2, 1), data(2, 2), data(2, 10), data(2, 15),
		record(255), record(256), data(256, 3), record(1 << 31), record(math.MaxUint32), entry(math.MaxUint32, "a"), data(math.MaxUint32, 15),
	}
}

// wrongPlaces are such as may not be.
func wrongPlaces() []api.Place {
	l := []api.Place{
		{}, record(0), entry(0, "a"), data(0, 0),
		entry(1, ""), entry(1, "."), entry(1, ".."), entry(1, "a/b"), entry(1, "/"), entry(1, "a\x00"), entry(1, "abcdefghi"),
		data(1, 16), data(1, math.MaxUint32),
		{Ino: 1, Part: api.Record, Name: "a"}, {Ino: 1, Part: api.Record, Chunk: 1},
		{Ino: 1, Part: api.Entry, Name: "a", Chunk: 1}, {Ino: 1, Part: api.Data, Name: "a"},
	}
	for _, part := range []int{math.MinInt, -1, api.NoPart, 4, 5, 256 + api.Record, 1<<32 + api.Data, math.MaxInt} {
		l = append(l, api.Place{Ino: 1, Part: part}, api.Place{Ino: 1, Part: part, Name: "a"})
	}
	return l
}

// anyChange is one that may be, of a place.
func anyChange(r *rand.Rand, p api.Place) api.Change {
	var l []api.Change
	switch p.Part {
	case api.Record:
		l = recordChanges(p)
	case api.Entry:
		l = entryChanges(p)
	default:
		var bytes chunk
		r.Read(bytes[:])
		l = []api.Change{gone(p), masked(p, false, r.Uint32(), bytes), masked(p, false, r.Uint32()&r.Uint32()&r.Uint32(), bytes), masked(p, true, r.Uint32(), bytes)}
	}
	return l[r.Intn(len(l))]
}

// mayBe is what the document says of a change that may be, of a place that may be, field by field.
func mayBe(c api.Change) bool {
	noInode, noPatch := c.Inode == api.Inode{}, c.Patch == api.Patch{}
	i := c.Inode
	switch {
	case c.Gone:
		return !c.Fresh && c.Fields == 0 && noInode && c.To == 0 && noPatch
	case c.Place.Part == api.Record && c.Fresh:
		isFile := i.Kind == 1 && i.Links >= 1 && i.Links <= 15 && i.Size >= 0 && i.Size <= 512
		isDir := i.Kind == 2 && i.Links == 1 && i.Size == 0
		return c.Fields == 0 && i.Mode >= 0 && i.Mode <= 511 && (isFile || isDir) && c.To == 0 && noPatch
	case c.Place.Part == api.Record:
		return i.Kind == 0 && c.To == 0 && noPatch && c.Fields >= 1 && c.Fields <= 7 &&
			fieldMayBe(c.Fields%2 == 1, i.Mode, 0, 511) &&
			fieldMayBe(c.Fields/2%2 == 1, i.Links, 1, 15) &&
			fieldMayBe(c.Fields/4 == 1, i.Size, 0, 512)
	case c.Place.Part == api.Entry:
		return !c.Fresh && c.Fields == 0 && noInode && c.To != 0 && noPatch
	}
	for n, b := range c.Patch.Bytes {
		if b != 0 && !isSet(c.Patch.Mask, n) {
			return false
		}
	}
	return !c.Fresh && c.Fields == 0 && noInode && c.To == 0
}

func fieldMayBe(isNamed bool, n, least, most int) bool {
	if isNamed {
		return n >= least && n <= most
	}
	return n == 0
}

// joined is what the document says of Join of two that may be, of one place.
func joined(a, b api.Change) (api.Change, api.Errno) {
	switch {
	case a.Gone && b.Fields != 0:
		return api.Change{}, api.ErrState
	case b.Gone || b.Fresh || b.Place.Part == api.Entry:
		return b, api.OK
	case b.Fields != 0:
		return joinedFields(a, b)
	case a.Gone:
		return anew(b), api.OK
	case b.Patch.Fresh:
		return b, api.OK
	}
	j := a
	for i := range j.Patch.Bytes {
		if isSet(b.Patch.Mask, i) {
			j.Patch.Mask |= 1 << i
			j.Patch.Bytes[i] = b.Patch.Bytes[i]
		}
	}
	return j, api.OK
}

func joinedFields(a, b api.Change) (api.Change, api.Errno) {
	j := a
	for _, f := range []struct {
		bit  int
		to   *int
		from int
	}{{1, &j.Inode.Mode, b.Inode.Mode}, {2, &j.Inode.Links, b.Inode.Links}, {4, &j.Inode.Size, b.Inode.Size}} {
		if b.Fields/f.bit%2 == 0 {
			continue
		}
		*f.to = f.from
		if !a.Fresh && a.Fields/f.bit%2 == 0 {
			j.Fields += f.bit
		}
	}
	if a.Fresh && j.Inode.Kind == api.Dir && (j.Inode.Links != 1 || j.Inode.Size != 0) {
		return api.Change{}, api.ErrArg
	}
	return j, api.OK
}

func wantCheck(t *testing.T, c api.Change, want api.Errno) {
	t.Helper()
	if err := delta.Check(c); err != want {
		t.Errorf("Check(%+v): got %d, want %d", c, err, want)
	}
}

func wantJoin(t *testing.T, a, b, want api.Change, wantErr api.Errno) {
	t.Helper()
	if c, err := delta.Join(a, b); c != want || err != wantErr {
		t.Errorf("Join(%+v, %+v):\ngot  %+v, %d\nwant %+v, %d", a, b, c, err, want, wantErr)
	}
}

func wantPut(t *testing.T, d *delta.Delta, c api.Change, want api.Errno) {
	t.Helper()
	if err := d.Put(c); err != want {
		t.Errorf("Put(%+v): got %d, want %d", c, err, want)
	}
}

func wantGet(t *testing.T, d *delta.Delta, want api.Change) {
	t.Helper()
	if c, is := d.Get(want.Place); c != want || !is {
		t.Errorf("Get(%+v):\ngot  %+v, %v\nwant %+v", want.Place, c, is, want)
	}
}

func wantNone(t *testing.T, d *delta.Delta, p api.Place) {
	t.Helper()
	if c, is := d.Get(p); c != (api.Change{}) || is {
		t.Errorf("Get(%+v): got %+v, %v; want none", p, c, is)
	}
}

// wantAll asks for all that can be asked of what is there.
func wantAll(t *testing.T, d *delta.Delta, mark int, want ...api.Change) {
	t.Helper()
	if l := d.All(); !slices.Equal(l, want) {
		t.Errorf("All:\ngot  %+v\nwant %+v", l, want)
	}
	if n := d.Count(); n != len(want) {
		t.Errorf("Count: got %d, want %d", n, len(want))
	}
	if n := d.Mark(); n != mark {
		t.Errorf("Mark: got %d, want %d", n, mark)
	}
	for _, c := range want {
		wantGet(t, d, c)
	}
}

func wantUndo(t *testing.T, d *delta.Delta, mark int, want api.Errno) {
	t.Helper()
	if err := d.Undo(mark); err != want {
		t.Errorf("Undo(%d): got %d, want %d", mark, err, want)
	}
}
