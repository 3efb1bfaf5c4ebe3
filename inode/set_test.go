package inode_test

import (
	"testing"

	"armoire/api"
	"armoire/inode"
)

// orders are all fields of a change, in each order, and each choice of them.
func orders(m, l, s inode.Field) [][]inode.Field {
	return [][]inode.Field{
		{m}, {l}, {s},
		{m, l}, {l, m}, {m, s}, {s, m}, {l, s}, {s, l},
		{m, l, s}, {m, s, l}, {l, m, s}, {l, s, m}, {s, m, l}, {s, l, m},
	}
}

// wish is what some fields make: the change, the inode behind it, the touches.
func wish(ino uint32, i api.Inode, l []inode.Field) (api.Change, api.Inode, []api.Touch) {
	c := api.Change{Place: record(ino)}
	var kinds [4]bool
	for _, f := range l {
		c.Fields += f.Bit
		switch f.Bit {
		case api.SetMode:
			i.Mode, c.Inode.Mode, kinds[api.Mode] = f.N, f.N, true
		case api.SetLinks:
			i.Links, c.Inode.Links, kinds[api.Links] = f.N, f.N, true
		case api.SetSize:
			i.Size, c.Inode.Size, kinds[api.Size] = f.N, f.N, true
		}
	}
	var touches []api.Touch
	for kind, is := range kinds {
		if is {
			touches = append(touches, of(ino, kind)...)
		}
	}
	return c, i, touches
}

// P17.3: no fields: nothing is changed, read or written; also where there were no room.
func TestSetOfNoFields(t *testing.T) {
	for _, i := range everyInode() {
		r := rigOf(t, 0, map[uint32]api.Inode{7: i})
		r.wantSet(7, api.OK)
		r.wantSet(7, api.OK, []inode.Field{}...)
		r.wantInode(7, i)
		r.wantNothing()
	}
	r := rigOf(t, 1, nil)
	ino := r.made(api.Dir, 3)
	r.wantSet(ino, api.OK)
	r.wantNothing()
}

// P17.3: one field, two and all three, in each order: one change; Mode is written ahead of Links ahead of Size.
func TestSetInEachOrder(t *testing.T) {
	for _, l := range orders(mode(5), links(4), size(77)) {
		r := rigWith(t, file(6, 2, 40))
		c, want, touches := wish(7, file(6, 2, 40), l)
		r.wantSet(7, api.OK, l...)
		r.wantPuts(c)
		r.wantWritten(touches...)
		r.wantInode(7, want)
		r.wantNothing()
		// Once more: nothing more is written, but it is done.
		r.wantSet(7, api.OK, l...)
		r.wantPuts(c)
		r.wantNothing()
	}
}

// P17.3: of what was made through the sight likewise: what was made stays one change that is Fresh.
func TestSetOfWhatWasMade(t *testing.T) {
	for _, l := range orders(mode(5), links(4), size(77)) {
		r := rigOf(t, 1, nil)
		ino := r.made(api.File, 6)
		c, want, touches := wish(ino, file(6, 1, 0), l)
		r.wantSet(ino, api.OK, l...)
		r.wantPuts(c)
		r.wantWritten(touches...)
		r.wantNothing()
		if x, is := r.delta.Get(record(ino)); x != fresh(ino, want) || !is {
			t.Errorf("got %+v, %v", x, is)
		}
	}
}

// P17.3: a field is set also to what it is: it is changed and written all the same.
func TestSetAsItIs(t *testing.T) {
	for _, l := range orders(mode(6), links(2), size(40)) {
		r := rigWith(t, file(6, 2, 40))
		c, want, touches := wish(7, file(6, 2, 40), l)
		r.wantSet(7, api.OK, l...)
		r.wantPuts(c)
		r.wantWritten(touches...)
		r.wantInode(7, want)
		r.wantNothing()
	}
}

// P17.3: values at each bound are taken, those past it refused, alone and beside fields that may be.
func TestSetAtBounds(t *testing.T) {
	for _, f := range []inode.Field{mode(0), mode(api.MaxMode), links(1), links(api.MaxLinks), size(0), size(api.MaxSize)} {
		r := rigWith(t, file(6, 2, 40))
		c, want, touches := wish(7, file(6, 2, 40), []inode.Field{f})
		r.wantSet(7, api.OK, f)
		r.wantPuts(c)
		r.wantWritten(touches...)
		r.wantInode(7, want)
	}
	r := rigWith(t, file(6, 2, 40))
	wrong := []inode.Field{mode(api.MaxMode + 1), links(0), links(api.MaxLinks + 1), size(api.MaxSize + 1)}
	for _, n := range far {
		wrong = append(wrong, mode(n), links(n), size(n))
	}
	for _, f := range wrong {
		for _, l := range [][]inode.Field{{f}, {f, mode(5)}, {mode(5), f}, {size(5), f, links(4)}, {links(4), mode(5), f}} {
			r.wantSet(7, api.ErrArg, l...)
			r.wantNothing()
		}
	}
	r.wantInode(7, file(6, 2, 40))
}

// P17.3: a Bit that is none, two in one, none at all: ErrArg, whatever the value, and wherever it stands.
func TestSetOfWrongBits(t *testing.T) {
	r := rigWith(t, file(6, 2, 40))
	ino := r.made(api.File, 6)
	bits := append([]int{0, 3, 5, 6, 7, 8, 9, 12, 16, 1 << 16, 1<<32 + 1}, far...)
	for _, bit := range bits {
		for _, n := range []int{0, 1, 2, 40, -1} {
			f := inode.Field{Bit: bit, N: n}
			for _, l := range [][]inode.Field{{f}, {f, mode(5)}, {mode(5), f}, {mode(5), links(4), size(3), f}, {f, mode(5), links(4), size(3)}, {mode(5), f, links(4)}, {f, f}} {
				r.wantSet(7, api.ErrArg, l...)
				r.wantSet(ino, api.ErrArg, l...)
			}
		}
	}
	r.wantNothing()
	r.wantInode(7, file(6, 2, 40))
}

// P17.3: a Bit that stands there twice, with one value or two, side by side or not.
func TestSetOfABitTwice(t *testing.T) {
	r := rigWith(t, file(6, 2, 40))
	for _, l := range [][]inode.Field{
		{mode(5), mode(5)}, {mode(5), mode(4)}, {links(3), links(3)}, {links(3), links(4)}, {size(5), size(5)}, {size(5), size(6)},
		{mode(6), mode(6)}, {size(0), size(0)}, {mode(0), mode(0)},
		{mode(5), size(5), mode(5)}, {size(5), mode(5), links(3), size(5)}, {links(3), mode(5), size(5), links(3)},
		{size(513), size(5)}, {size(5), size(513)},
	} {
		r.wantSet(7, api.ErrArg, l...)
	}
	many := make([]inode.Field, 10000)
	for i := range many {
		many[i] = mode(5)
	}
	r.wantSet(7, api.ErrArg, many...)
	r.wantNothing()
	r.wantInode(7, file(6, 2, 40))
}

// P17.3: a directory has one Link and no bytes: what a file may have it may not; its Mode it may.
func TestSetOfADirectory(t *testing.T) {
	base := rigWith(t, dir(6))
	here := rigOf(t, api.MaxPlaces, nil)
	made := here.made(api.Dir, 6)
	for _, x := range []struct {
		r   *rig
		ino uint32
	}{{base, 7}, {here, made}} {
		for _, l := range [][]inode.Field{{links(2)}, {links(api.MaxLinks)}, {size(1)}, {size(api.MaxSize)}, {links(0)}, {mode(5), links(2)}, {size(1), mode(5)}, {links(1), size(1)}, {size(0), links(2)}, {mode(512)}} {
			x.r.wantSet(x.ino, api.ErrArg, l...)
		}
		x.r.wantNothing()
		x.r.wantInode(x.ino, dir(6))
		for _, l := range orders(mode(api.MaxMode), links(1), size(0)) {
			i, _ := inode.Stat(x.r.sight, x.ino)
			x.r.read = x.r.sight.Reads.All()
			c, want, _ := wish(x.ino, i, l)
			x.r.wantSet(x.ino, api.OK, l...)
			x.r.wantPuts(c)
			x.r.wantInode(x.ino, want)
		}
		x.r.wantWritten(of(x.ino, api.Mode, api.Links, api.Size)...)
		x.r.wantNothing()
	}
}

// P17.3: fields that each may be, but not with the rest of an inode that the delta alone made wrong: then no fields are refused too, and those that mend it are not.
func TestSetOfWhatMayNotBe(t *testing.T) {
	r := rigWith(t, dir(6))
	r.put(fields(7, api.SetLinks|api.SetSize, 0, 2, 5))
	for _, l := range [][]inode.Field{nil, {mode(5)}, {links(1)}, {size(0)}, {mode(5), size(0)}, {links(2), size(5)}} {
		r.wantSet(7, api.ErrArg, l...)
	}
	r.wantNothing()
	r.wantSet(7, api.OK, size(0), links(1))
	r.wantPuts(fields(7, api.SetLinks|api.SetSize, 0, 1, 0))
	r.wantWritten(of(7, api.Links, api.Size)...)
	r.wantInode(7, dir(6))
	r.wantNothing()
}

// P17.3: Put's error is handed on, and nothing is written then; a place that has a change has room.
func TestSetWithoutRoom(t *testing.T) {
	r := rigOf(t, 1, map[uint32]api.Inode{7: file(6, 2, 40), 8: dir(6)})
	r.wantSet(8, api.OK, mode(1))
	r.wantPuts(fields(8, api.SetMode, 1, 0, 0))
	r.wantWritten(of(8, api.Mode)...)
	for _, l := range orders(mode(5), links(4), size(77)) {
		r.wantSet(7, api.ErrTooBig, l...)
	}
	// ErrArg ahead of that.
	r.wantSet(7, api.ErrArg, mode(512))
	r.wantSet(7, api.OK)
	r.wantNothing()
	r.wantInode(7, file(6, 2, 40))
	r.wantSet(8, api.OK, mode(2))
	r.wantPuts(fields(8, api.SetMode, 2, 0, 0))
	r.wantNothing()
}

// R4: the list of fields is neither changed nor kept, nor the spare room behind it.
func TestSetKeepsNoList(t *testing.T) {
	r := rigWith(t, file(6, 2, 40))
	room := []inode.Field{size(5), mode(1), links(9), {Bit: 77, N: 77}}
	if err := inode.Set(r.sight, 7, room[:2]...); err != api.OK {
		t.Errorf("Set: got %d", err)
	}
	for i, want := range []inode.Field{size(5), mode(1), links(9), {Bit: 77, N: 77}} {
		if room[i] != want {
			t.Errorf("the list has changed: %v", room)
		}
	}
	clear(room)
	r.wantInode(7, file(1, 2, 5))
	r.wantPuts(fields(7, api.SetMode|api.SetSize, 1, 0, 5))
	r.wantWritten(of(7, api.Mode, api.Size)...)
}
