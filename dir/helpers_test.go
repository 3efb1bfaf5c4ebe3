package dir_test

import (
	"encoding/binary"
	"iter"
	"maps"
	"math"
	"slices"
	"strings"
	"testing"

	"armoire/api"
	"armoire/delta"
	"armoire/dir"
	"armoire/inode"
	"armoire/reads"
	"armoire/view"
)

// store is a base of some values by their keys. It writes down what it is asked for.
type store struct {
	values map[string]string
	faults map[string]api.Errno // what Get answers of a key
	ends   map[uint32]end       // how the entries of an inode end
	wild   bool                 // beside an error, and beside nothing, an entry is told
	asked  []string
}

// end is an error behind some entries.
type end struct {
	behind int
	err    api.Errno
}

func (b *store) Get(key string) (string, bool, api.Errno) {
	b.asked = append(b.asked, key)
	beside := ""
	if b.wild {
		beside = number(2)
	}
	if err := b.faults[key]; err != api.OK {
		return beside, b.wild, err
	}
	if value, is := b.values[key]; is {
		return value, true, api.OK
	}
	return beside, false, api.OK
}

func (b *store) From(key string) iter.Seq2[api.KV, api.Errno] {
	b.asked = append(b.asked, "from "+key)
	ends, fails := b.ends[binary.BigEndian.Uint32([]byte(key))]
	return func(yield func(api.KV, api.Errno) bool) {
		n := 0
		for _, k := range slices.Sorted(maps.Keys(b.values)) {
			if fails && n == ends.behind {
				break
			}
			if k >= key {
				if !yield(api.KV{Key: k, Value: b.values[k]}, api.OK) {
					return
				}
				n++
			}
		}
		if fails {
			yield(api.KV{}, ends.err)
		}
	}
}

func file(links, size int) api.Inode {
	return api.Inode{Kind: api.File, Mode: 6, Links: links, Size: size}
}

func directory() api.Inode { return api.Inode{Kind: api.Dir, Mode: 7, Links: 1} }

// number, recordKey, entryKey and valueOf are what the document says of keys and values.
func number(n uint32) string { return string(binary.BigEndian.AppendUint32(nil, n)) }

func recordKey(ino uint32) string { return number(ino) + "\x01" + strings.Repeat("\x00", 9) }

func entryKey(in uint32, name string) string {
	return number(in) + "\x02" + name + strings.Repeat("\x00", 9-len(name))
}

func valueOf(i api.Inode) string {
	return string([]byte{byte(i.Kind), byte(i.Mode >> 8), byte(i.Mode), byte(i.Links), byte(i.Size >> 8), byte(i.Size)})
}

func recordAt(ino uint32) api.Place { return api.Place{Ino: ino, Part: api.Record} }

func entryAt(in uint32, name string) api.Place {
	return api.Place{Ino: in, Part: api.Entry, Name: name}
}

// The changes of the layer, and of those below it.
func leads(in uint32, name string, to uint32) api.Change {
	return api.Change{Place: entryAt(in, name), To: to}
}

func goneEntry(in uint32, name string) api.Change {
	return api.Change{Place: entryAt(in, name), Gone: true}
}

func fresh(ino uint32, i api.Inode) api.Change {
	return api.Change{Place: recordAt(ino), Fresh: true, Inode: i}
}

func goneRecord(ino uint32) api.Change { return api.Change{Place: recordAt(ino), Gone: true} }

func goneChunk(ino, n uint32) api.Change {
	return api.Change{Place: api.Place{Ino: ino, Part: api.Data, Chunk: n}, Gone: true}
}

func linked(ino uint32, links int) api.Change {
	return api.Change{Place: recordAt(ino), Fields: api.SetLinks, Inode: api.Inode{Links: links}}
}

// And the touches.
func name(in uint32, name string) api.Touch {
	return api.Touch{Kind: api.Name, Ino: in, Name: name}
}

func of(ino uint32, kind int) api.Touch { return api.Touch{Kind: kind, Ino: ino} }

func names(ino uint32) api.Touch { return of(ino, api.Names) }

// rig is a sight, and all that can be told of what was done through it.
type rig struct {
	t       *testing.T
	base    *store
	delta   *delta.Delta
	sight   *inode.Sight
	number  uint32 // the last one that was allotted
	changes []api.Change
	read    []api.Touch
	written []api.Touch
	given   uint32
}

// rigOf has a root alone, and room for so many places. Its numbers are allotted from 100 on.
func rigOf(t *testing.T, most int) *rig {
	t.Helper()
	r := &rig{t: t, base: &store{values: map[string]string{}, faults: map[string]api.Errno{}, ends: map[uint32]end{}}, delta: delta.New(most), number: 99, given: 99}
	r.base.values[recordKey(api.Root)] = valueOf(api.Inode{Kind: api.Dir, Links: 1})
	r.sight = r.fresh()
	return r
}

func (r *rig) fresh() *inode.Sight {
	return &inode.Sight{V: view.New(r.base, r.delta), Reads: reads.New(), Writes: reads.New(), Alloc: func() uint32 {
		r.number++
		return r.number
	}}
}

// has: the base has an entry, and what it leads to.
func (r *rig) has(in uint32, name string, to uint32, i api.Inode) {
	r.base.values[entryKey(in, name)] = number(to)
	r.base.values[recordKey(to)] = valueOf(i)
}

// treeOf is a rig with a tree:
//
//	/a 2, /a/b 3, /a/b/c 4, /e 5: directories, the last two of which are empty
//	/f and /a/g 11: a file of 40 bytes; /a/b/h 12: one of 3, with that name alone; /l 13: one with 15 links
//	/s: leads to 99, where no inode is
func treeOf(t *testing.T, most int) *rig {
	t.Helper()
	r := rigOf(t, most)
	r.has(1, "a", 2, directory())
	r.has(2, "b", 3, directory())
	r.has(3, "c", 4, directory())
	r.has(1, "e", 5, directory())
	r.has(1, "f", 11, file(2, 40))
	r.has(2, "g", 11, file(2, 40))
	r.has(3, "h", 12, file(1, 3))
	r.has(1, "l", 13, file(15, 0))
	r.base.values[entryKey(1, "s")] = number(99)
	return r
}

// wantPuts: behind what was there when this was asked last, just these changes were put in.
func (r *rig) wantPuts(want ...api.Change) {
	r.t.Helper()
	r.changes = append(r.changes, want...)
	if got := r.delta.Mark(); got != len(r.changes) {
		r.t.Errorf("%d changes were put in, want %d: %+v", got, len(r.changes), r.delta.All())
		return
	}
	like := delta.New(math.MaxInt)
	for _, c := range r.changes {
		if err := like.Put(c); err != api.OK {
			r.t.Errorf("Put(%+v): got %d", c, err)
		}
	}
	if !slices.Equal(r.delta.All(), like.All()) {
		r.t.Errorf("the delta:\ngot  %+v\nwant %+v", r.delta.All(), like.All())
	}
}

// wantPutsBackwards undoes one change after the other, so that their order is seen. Nothing may be asked of the rig behind that.
func (r *rig) wantPutsBackwards() {
	r.t.Helper()
	like := delta.New(math.MaxInt)
	for _, c := range r.changes {
		like.Put(c)
	}
	for mark := len(r.changes); mark >= 0; mark-- {
		r.delta.Undo(mark)
		like.Undo(mark)
		if !slices.Equal(r.delta.All(), like.All()) {
			r.t.Errorf("the delta at %d:\ngot  %+v\nwant %+v", mark, r.delta.All(), like.All())
		}
	}
}

// wantRead and wantWritten: behind what was there when this was asked last, just these were added, in this order.
func (r *rig) wantRead(want ...api.Touch) {
	r.t.Helper()
	r.read = append(r.read, want...)
	if got := r.sight.Reads.All(); !slices.Equal(got, r.read) {
		r.t.Errorf("read: got %+v, want %+v", got, r.read)
	}
}

func (r *rig) wantWritten(want ...api.Touch) {
	r.t.Helper()
	r.written = append(r.written, want...)
	if got := r.sight.Writes.All(); !slices.Equal(got, r.written) {
		r.t.Errorf("written: got %+v, want %+v", got, r.written)
	}
}

// wantGiven: behind what was there when this was asked last, so many numbers were asked for.
func (r *rig) wantGiven(want uint32) {
	r.t.Helper()
	r.given += want
	if r.number != r.given {
		r.t.Errorf("numbers were given up to %d, want %d", r.number, r.given)
	}
}

// wantReadAlone: these were read, and nothing else was done.
func (r *rig) wantReadAlone(want ...api.Touch) {
	r.t.Helper()
	r.wantPuts()
	r.wantRead(want...)
	r.wantWritten()
	r.wantGiven(0)
}

// wantUnasked: the base was asked for nothing, and nothing was done.
func (r *rig) wantUnasked() {
	r.t.Helper()
	if len(r.base.asked) != 0 {
		r.t.Errorf("the base was asked for %q", r.base.asked)
	}
	r.base.asked = nil
	r.wantReadAlone()
}

// put puts changes in past the layer's functions, as what was there ahead of them.
func (r *rig) put(l ...api.Change) {
	r.t.Helper()
	for _, c := range l {
		if err := r.sight.V.Put(c); err != api.OK {
			r.t.Errorf("Put(%+v): got %d", c, err)
		}
	}
	r.changes = append(r.changes, l...)
}

func (r *rig) wantFind(p string, want uint32, wantErr api.Errno) {
	r.t.Helper()
	if ino, err := dir.Find(r.sight, p); ino != want || err != wantErr {
		r.t.Errorf("Find(%q): got %d, %d; want %d, %d", p, ino, err, want, wantErr)
	}
}

func (r *rig) wantList(p string, wantErr api.Errno, want ...string) {
	r.t.Helper()
	if l, err := dir.List(r.sight, p); !slices.Equal(l, want) || err != wantErr {
		r.t.Errorf("List(%q): got %q, %d; want %q, %d", p, l, err, want, wantErr)
	}
}

func (r *rig) wantMake(p string, kind, mode int, want uint32, wantErr api.Errno) {
	r.t.Helper()
	if ino, err := dir.Make(r.sight, p, kind, mode); ino != want || err != wantErr {
		r.t.Errorf("Make(%q, %d, %d): got %d, %d; want %d, %d", p, kind, mode, ino, err, want, wantErr)
	}
}

func (r *rig) wantLink(old, p string, want api.Errno) {
	r.t.Helper()
	if err := dir.Link(r.sight, old, p); err != want {
		r.t.Errorf("Link(%q, %q): got %d, want %d", old, p, err, want)
	}
}

func (r *rig) wantUnlink(p string, want api.Errno) {
	r.t.Helper()
	if err := dir.Unlink(r.sight, p); err != want {
		r.t.Errorf("Unlink(%q): got %d, want %d", p, err, want)
	}
}

func (r *rig) wantRmdir(p string, want api.Errno) {
	r.t.Helper()
	if err := dir.Rmdir(r.sight, p); err != want {
		r.t.Errorf("Rmdir(%q): got %d, want %d", p, err, want)
	}
}

func (r *rig) wantRename(old, p string, want api.Errno) {
	r.t.Helper()
	if err := dir.Rename(r.sight, old, p); err != want {
		r.t.Errorf("Rename(%q, %q): got %d, want %d", old, p, err, want)
	}
}

// wantInode: this stands there, as the view itself tells it: no call of the layer is made.
func (r *rig) wantInode(ino uint32, want api.Inode) {
	r.t.Helper()
	if x, is, err := r.sight.V.Get(recordAt(ino)); x.Inode != want || is != (want != api.Inode{}) || err != api.OK {
		r.t.Errorf("%d: got %+v, %v, %d; want %+v", ino, x.Inode, is, err, want)
	}
}

// wantPlaces: a path's place is asked for by each call that asks for one: each is refused by this error, and has read just these.
func wantPlaces(t *testing.T, rig func() *rig, p string, want api.Errno, read ...api.Touch) {
	t.Helper()
	for _, do := range placed(p, want) {
		r := rig()
		do(r)
		r.wantReadAlone(read...)
	}
}

// placed are the calls that ask for a path's place ahead of all else.
func placed(p string, want api.Errno) []func(r *rig) {
	return []func(r *rig){
		func(r *rig) { r.wantMake(p, api.Dir, 0, 0, want) },
		func(r *rig) { r.wantMake(p, 9, -1, 0, want) },
		func(r *rig) { r.wantUnlink(p, want) },
		func(r *rig) { r.wantRmdir(p, want) },
		func(r *rig) { r.wantRename(p, "/zz", want) },
		func(r *rig) { r.wantRename(p, "/f/zz", want) },
	}
}

// faults are errors that a base may have, also such as no layer has.
var faults = []api.Errno{api.ErrDown, api.ErrPage, api.ErrForm, api.ErrStale, api.ErrNoEntry, api.ErrExists, api.ErrNotDir, -1, 9999}

// wrongPaths are none.
func wrongPaths() []string {
	return []string{"", "a", "//", "/a/", "/a//b", "a/b", "/.", "/..", "/a/../b", "/a/.", "/123456789", "/a\x00", "/1/2/3/4/5/6/7", " /a", "/" + strings.Repeat("a", 64), strings.Repeat("/a", 33), "\x00", "."}
}
