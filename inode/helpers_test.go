package inode_test

import (
	"encoding/binary"
	"iter"
	"math"
	"slices"
	"strings"
	"testing"

	"armoire/api"
	"armoire/delta"
	"armoire/inode"
	"armoire/reads"
	"armoire/view"
)

// store is a base of some values by their keys. It writes down what it is asked for.
type store struct {
	values map[string]string
	fault  api.Errno // what Get answers, if it is not OK
	spared int       // how many more Gets the fault spares
	wild   bool      // beside a fault, and beside nothing, a record is told
	gets   []string
}

func (b *store) Get(key string) (string, bool, api.Errno) {
	b.gets = append(b.gets, key)
	beside := ""
	if b.wild {
		beside = valueOf(file(9, 9, 99))
	}
	if b.spared--; b.fault != api.OK && b.spared < 0 {
		return beside, b.wild, b.fault
	}
	if value, is := b.values[key]; is {
		return value, true, api.OK
	}
	return beside, false, api.OK
}

// From is not told of: nothing of this layer goes through names.
func (b *store) From(key string) iter.Seq2[api.KV, api.Errno] {
	b.gets = append(b.gets, "from "+key)
	return func(yield func(api.KV, api.Errno) bool) {}
}

func file(mode, links, size int) api.Inode {
	return api.Inode{Kind: api.File, Mode: mode, Links: links, Size: size}
}

func dir(mode int) api.Inode { return api.Inode{Kind: api.Dir, Mode: mode, Links: 1} }

// key and valueOf are what the document says of a record's key and value.
func key(ino uint32) string {
	return string(binary.BigEndian.AppendUint32(nil, ino)) + "\x01" + strings.Repeat("\x00", 9)
}

func valueOf(i api.Inode) string {
	return string([]byte{byte(i.Kind), byte(i.Mode >> 8), byte(i.Mode), byte(i.Links), byte(i.Size >> 8), byte(i.Size)})
}

func record(ino uint32) api.Place { return api.Place{Ino: ino, Part: api.Record} }

func fresh(ino uint32, i api.Inode) api.Change {
	return api.Change{Place: record(ino), Fresh: true, Inode: i}
}

func goneRecord(ino uint32) api.Change { return api.Change{Place: record(ino), Gone: true} }

func goneChunk(ino, n uint32) api.Change {
	return api.Change{Place: api.Place{Ino: ino, Part: api.Data, Chunk: n}, Gone: true}
}

// goneAll is how a file of so many chunks goes: its record, then they.
func goneAll(ino uint32, chunks int) []api.Change {
	l := []api.Change{goneRecord(ino)}
	for n := range chunks {
		l = append(l, goneChunk(ino, uint32(n)))
	}
	return l
}

func fields(ino uint32, sum, mode, links, size int) api.Change {
	return api.Change{Place: record(ino), Fields: sum, Inode: api.Inode{Mode: mode, Links: links, Size: size}}
}

func mode(n int) inode.Field { return inode.Field{Bit: api.SetMode, N: n} }

func links(n int) inode.Field { return inode.Field{Bit: api.SetLinks, N: n} }

func size(n int) inode.Field { return inode.Field{Bit: api.SetSize, N: n} }

// of are touches of one inode, by their kinds.
func of(ino uint32, kinds ...int) []api.Touch {
	var l []api.Touch
	for _, kind := range kinds {
		l = append(l, api.Touch{Kind: kind, Ino: ino})
	}
	return l
}

// rig is a sight, and all that can be told of what was done through it.
type rig struct {
	t       *testing.T
	base    *store
	delta   *delta.Delta
	sight   *inode.Sight
	number  uint32 // the last one that was allotted
	allots  int    // how often one was asked for
	changes []api.Change
	read    []api.Touch
	written []api.Touch
	asked   int
}

// rigOf has a base with these inodes by their numbers, and room for so many places. Its numbers are allotted from 100 on.
func rigOf(t *testing.T, most int, inodes map[uint32]api.Inode) *rig {
	t.Helper()
	r := &rig{t: t, base: &store{values: map[string]string{}}, delta: delta.New(most), number: 99}
	for ino, i := range inodes {
		r.base.values[key(ino)] = valueOf(i)
	}
	r.sight = &inode.Sight{V: view.New(r.base, r.delta), Reads: reads.New(), Writes: reads.New(), Alloc: func() uint32 {
		r.allots++
		r.number++
		return r.number
	}}
	return r
}

// rigWith has one inode, with the number 7.
func rigWith(t *testing.T, i api.Inode) *rig {
	t.Helper()
	return rigOf(t, api.MaxPlaces, map[uint32]api.Inode{7: i})
}

// wantPuts: behind what was there when this was asked last, just these changes were put in, in this order.
func (r *rig) wantPuts(want ...api.Change) {
	r.t.Helper()
	r.changes = append(r.changes, want...)
	if got := r.delta.Mark(); got != len(r.changes) {
		r.t.Errorf("%d changes were put in, want %d: %+v", got, len(r.changes), r.delta.All())
		return
	}
	like := delta.New(math.MaxInt)
	for _, c := range r.changes {
		if err := like.Put(c); err != api.OK {
			r.t.Errorf("Put(%+v): got %d", c, err)
		}
	}
	if !slices.Equal(r.delta.All(), like.All()) {
		r.t.Errorf("the delta:\ngot  %+v\nwant %+v", r.delta.All(), like.All())
	}
}

// wantPutsBackwards undoes one change after the other, so that their order is seen. Nothing may be asked of the rig behind that.
func (r *rig) wantPutsBackwards() {
	r.t.Helper()
	like := delta.New(math.MaxInt)
	for _, c := range r.changes {
		like.Put(c)
	}
	for mark := len(r.changes); mark >= 0; mark-- {
		r.delta.Undo(mark)
		like.Undo(mark)
		if !slices.Equal(r.delta.All(), like.All()) {
			r.t.Errorf("the delta at %d:\ngot  %+v\nwant %+v", mark, r.delta.All(), like.All())
		}
	}
}

// wantRead and wantWritten: behind what was there when this was asked last, just these were added, in this order.
func (r *rig) wantRead(want ...api.Touch) {
	r.t.Helper()
	r.read = append(r.read, want...)
	if got := r.sight.Reads.All(); !slices.Equal(got, r.read) {
		r.t.Errorf("read: got %+v, want %+v", got, r.read)
	}
}

func (r *rig) wantWritten(want ...api.Touch) {
	r.t.Helper()
	r.written = append(r.written, want...)
	if got := r.sight.Writes.All(); !slices.Equal(got, r.written) {
		r.t.Errorf("written: got %+v, want %+v", got, r.written)
	}
}

// wantAllots: behind what was there when this was asked last, so many numbers were asked for.
func (r *rig) wantAllots(want int) {
	r.t.Helper()
	r.asked += want
	if r.allots != r.asked {
		r.t.Errorf("%d numbers were asked for, want %d", r.allots, r.asked)
	}
}

// wantNothing: nothing was put in, read, written, allotted.
func (r *rig) wantNothing() {
	r.t.Helper()
	r.wantPuts()
	r.wantRead()
	r.wantWritten()
	r.wantAllots(0)
}

// put puts changes in past the sight's functions, as what was there ahead of them.
func (r *rig) put(l ...api.Change) {
	r.t.Helper()
	for _, c := range l {
		if err := r.sight.V.Put(c); err != api.OK {
			r.t.Errorf("Put(%+v): got %d", c, err)
		}
	}
	r.changes = append(r.changes, l...)
}

func (r *rig) wantMake(kind, mode int, want uint32, wantErr api.Errno) {
	r.t.Helper()
	if ino, err := inode.Make(r.sight, kind, mode); ino != want || err != wantErr {
		r.t.Errorf("Make(%d, %d): got %d, %d; want %d, %d", kind, mode, ino, err, want, wantErr)
	}
}

// made is a new inode, which is no more to be told of.
func (r *rig) made(kind, mode int) uint32 {
	r.t.Helper()
	ino, err := inode.Make(r.sight, kind, mode)
	if err != api.OK {
		r.t.Errorf("Make(%d, %d): got %d", kind, mode, err)
	}
	r.wantPuts(fresh(ino, api.Inode{Kind: kind, Mode: mode, Links: 1}))
	r.wantAllots(1)
	return ino
}

func (r *rig) wantKind(ino uint32, want int, wantErr api.Errno) {
	r.t.Helper()
	if kind, err := inode.Kind(r.sight, ino); kind != want || err != wantErr {
		r.t.Errorf("Kind(%d): got %d, %d; want %d, %d", ino, kind, err, want, wantErr)
	}
}

func (r *rig) wantStat(ino uint32, want api.Inode, wantErr api.Errno) {
	r.t.Helper()
	if i, err := inode.Stat(r.sight, ino); i != want || err != wantErr {
		r.t.Errorf("Stat(%d): got %+v, %d; want %+v, %d", ino, i, err, want, wantErr)
	}
}

func (r *rig) wantSize(ino uint32, want int, wantErr api.Errno) {
	r.t.Helper()
	if n, err := inode.Size(r.sight, ino); n != want || err != wantErr {
		r.t.Errorf("Size(%d): got %d, %d; want %d, %d", ino, n, err, want, wantErr)
	}
}

func (r *rig) wantSet(ino uint32, want api.Errno, l ...inode.Field) {
	r.t.Helper()
	was := slices.Clone(l)
	if err := inode.Set(r.sight, ino, l...); err != want {
		r.t.Errorf("Set(%d, %v): got %d, want %d", ino, l, err, want)
	}
	if !slices.Equal(l, was) {
		r.t.Errorf("Set(%d, %v) has changed the fields: %v", ino, was, l)
	}
}

func (r *rig) wantLink(ino uint32, by, want int, wantErr api.Errno) {
	r.t.Helper()
	if n, err := inode.Link(r.sight, ino, by); n != want || err != wantErr {
		r.t.Errorf("Link(%d, %d): got %d, %d; want %d, %d", ino, by, n, err, want, wantErr)
	}
}

func (r *rig) wantRemove(ino uint32, want api.Errno) {
	r.t.Helper()
	if err := inode.Remove(r.sight, ino); err != want {
		r.t.Errorf("Remove(%d): got %d, want %d", ino, err, want)
	}
}

// wantInode: this stands there, as the view itself tells it: no call of the layer is made.
func (r *rig) wantInode(ino uint32, want api.Inode) {
	r.t.Helper()
	if x, is, err := r.sight.V.Get(record(ino)); x.Inode != want || !is || err != api.OK {
		r.t.Errorf("%d: got %+v, %v, %d; want %+v", ino, x.Inode, is, err, want)
	}
}

// wantAll: each call of the number is refused by this error, and does nothing at all.
func (r *rig) wantAll(ino uint32, want api.Errno) {
	r.t.Helper()
	r.wantKind(ino, 0, want)
	r.wantStat(ino, api.Inode{}, want)
	r.wantSize(ino, 0, want)
	for _, l := range [][]inode.Field{nil, {mode(1)}, {size(5), links(2)}, {size(513)}, {{Bit: 8}}, {mode(1), mode(1)}} {
		r.wantSet(ino, want, l...)
	}
	for _, by := range []int{0, 1, -1, 16, -16, math.MaxInt, math.MinInt} {
		r.wantLink(ino, by, 0, want)
	}
	r.wantRemove(ino, want)
	r.wantNothing()
}

// faults are errors that a base may have, also such as no layer has.
var faults = []api.Errno{api.ErrDown, api.ErrPage, api.ErrForm, api.ErrStale, api.ErrArg, api.ErrIsDir, -1, 9999}

// far are ints that are past each bound.
var far = []int{math.MinInt, math.MinInt32, -65536, -1, 65536, 1 << 32, math.MaxInt - 1, math.MaxInt}
