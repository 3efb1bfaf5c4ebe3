package view_test

import (
	"strings"

	"armoire/api"
	"armoire/item"
)

// deed is a change, upon something that the base has or upon nothing, and what stands there then.
type deed struct {
	name   string
	has    item.Item // what the base has; zero of nothing
	change api.Change
	want   item.Item
	is     bool
	err    api.Errno // why nothing can be told
	all    bool      // the change says all: the base is not asked
	wrong  bool      // what stands there then may not be
}

// base is what the deed is done upon, beside other places.
func (d deed) base() *store {
	l := []api.KV{
		kv(record(1), inode(api.Dir, 5, 1, 0)), kv(entry(1, "Z"), leadsTo(90)), kv(entry(1, "b"), leadsTo(91)),
		kv(data(2, 0), bytesOf("ahead")), kv(data(2, 2), bytesOf("behind")), kv(record(3), inode(api.File, 1, 3, 9)),
	}
	if d.has != (item.Item{}) {
		l = append(l, kv(d.change.Place, d.has))
	}
	return storeOf(l...)
}

// deeds are changes of each kind.
func deeds() []deed {
	return append(append(recordDeeds(), entryDeeds()...), dataDeeds()...)
}

func recordDeeds() []deed {
	r := record(2)
	file, dir, other := inode(api.File, 6, 2, 258), inode(api.Dir, 511, 1, 0), inode(api.File, 1, 15, 512)
	l := []deed{
		{name: "gone", has: file, change: gone(r), all: true},
		{name: "gone, nothing there", change: gone(r), all: true},
		{name: "a Fresh file", change: fresh(r, other), want: other, is: true, all: true},
		{name: "a Fresh file upon a file", has: file, change: fresh(r, other), want: other, is: true, all: true},
		{name: "a Fresh directory upon a file", has: file, change: fresh(r, dir), want: dir, is: true, all: true},
		{name: "a Fresh file upon a directory", has: dir, change: fresh(r, other), want: other, is: true, all: true},
		{name: "Mode of a directory", has: dir, change: mode(r, 0), want: inode(api.Dir, 0, 1, 0), is: true},
		{name: "Links of a directory, as they are", has: dir, change: link(r, 1), want: dir, is: true},
		{name: "Size of a directory, as it is", has: dir, change: size(r, 0), want: dir, is: true},
		{name: "two Links of a directory", has: dir, change: link(r, 2), want: inode(api.Dir, 511, 2, 0), is: true, wrong: true},
		{name: "the Size 1 of a directory", has: dir, change: size(r, 1), want: inode(api.Dir, 511, 1, 1), is: true, wrong: true},
		{name: "all fields of a directory", has: dir, change: fields(r, 7, 3, 15, 512), want: inode(api.Dir, 3, 15, 512), is: true, wrong: true},
	}
	for i, want := range []item.Item{
		inode(api.File, 511, 2, 258), inode(api.File, 6, 15, 258), inode(api.File, 511, 15, 258), inode(api.File, 6, 2, 512),
		inode(api.File, 511, 2, 512), inode(api.File, 6, 15, 512), inode(api.File, 511, 15, 512),
	} {
		sum := i + 1
		c := fields(r, sum, 511*(sum%2), 15*(sum/2%2), 512*(sum/4))
		l = append(l,
			deed{name: "Fields", has: file, change: c, want: want, is: true},
			deed{name: "Fields, nothing there", change: c, err: api.ErrState},
		)
	}
	return append(l, deed{name: "the fields' lowest", has: file, change: fields(r, 7, 0, 1, 0), want: inode(api.File, 0, 1, 0), is: true})
}

func entryDeeds() []deed {
	e := entry(1, "a")
	return []deed{
		{name: "gone", has: leadsTo(7), change: gone(e), all: true},
		{name: "gone, nothing there", change: gone(e), all: true},
		{name: "an entry", change: leads(e, 1<<32-1), want: leadsTo(1<<32 - 1), is: true, all: true},
		{name: "an entry upon another one", has: leadsTo(7), change: leads(e, 8), want: leadsTo(8), is: true, all: true},
		{name: "an entry as it is", has: leadsTo(7), change: leads(e, 7), want: leadsTo(7), is: true, all: true},
	}
}

func dataDeeds() []deed {
	d, full := data(2, 1), strings.Repeat("0123456789abcdef", 2)
	noughts := strings.Repeat("\x00", 32)
	return []deed{
		{name: "gone", has: bytesOf(full), change: gone(d), all: true},
		{name: "gone, nothing there", change: gone(d), all: true},
		{name: "a patch", has: bytesOf(full), change: text(d, 2, "XY"), want: bytesOf("01XY" + full[4:]), is: true},
		{name: "a patch of the first byte", has: bytesOf(full), change: text(d, 0, "X"), want: bytesOf("X" + full[1:]), is: true},
		{name: "a patch of the last byte", has: bytesOf(full), change: text(d, 31, "X"), want: bytesOf(full[:31] + "X"), is: true},
		{name: "a patch of noughts", has: bytesOf(full), change: text(d, 30, noughts[:2]), want: bytesOf(full[:30]), is: true},
		{name: "a patch of all bytes", has: bytesOf(full), change: text(d, 0, full[16:]+full[:15]+"X"), want: bytesOf(full[:31] + "X"), is: true},
		{name: "a patch without a bit", has: bytesOf(full), change: text(d, 0, ""), want: bytesOf(full), is: true},
		{name: "a patch, nothing there", change: text(d, 2, "XY"), want: bytesOf("\x00\x00XY"), is: true},
		{name: "a patch of noughts, nothing there", change: text(d, 0, noughts), want: bytesOf(""), is: true},
		{name: "a patch without a bit, nothing there", change: text(d, 0, ""), want: bytesOf(""), is: true},
		{name: "a Fresh patch", has: bytesOf(full), change: anew(text(d, 2, "XY")), want: bytesOf("\x00\x00XY"), is: true, all: true},
		{name: "a Fresh patch, nothing there", change: anew(text(d, 2, "XY")), want: bytesOf("\x00\x00XY"), is: true, all: true},
		{name: "a Fresh patch without a bit", has: bytesOf(full), change: anew(text(d, 0, "")), want: bytesOf(""), is: true, all: true},
	}
}
