package extent_test

import (
	"encoding/binary"
	"iter"
	"math"
	"slices"
	"strings"
	"testing"

	"armoire/api"
	"armoire/delta"
	"armoire/extent"
	"armoire/inode"
	"armoire/reads"
	"armoire/view"
)

// store is a base of some values by their keys. It writes down what it is asked for.
type store struct {
	values map[string]string
	faults map[string]api.Errno // what Get answers of a key
	fault  api.Errno            // what it answers of each key, if it is not OK
	spared int                  // how many more Gets that spares
	wild   bool                 // beside an error, and beside nothing, bytes are told
	gets   []string
}

func (b *store) Get(key string) (string, bool, api.Errno) {
	b.gets = append(b.gets, key)
	beside := ""
	if b.wild {
		beside = strings.Repeat("w", 32)
	}
	if err := b.faults[key]; err != api.OK {
		return beside, b.wild, err
	}
	if b.spared--; b.fault != api.OK && b.spared < 0 {
		return beside, b.wild, b.fault
	}
	if value, is := b.values[key]; is {
		return value, true, api.OK
	}
	return beside, false, api.OK
}

// From is not told of: nothing of this layer goes through names.
func (b *store) From(key string) iter.Seq2[api.KV, api.Errno] {
	b.gets = append(b.gets, "from "+key)
	return func(yield func(api.KV, api.Errno) bool) {}
}

// recordKey, chunkKey and valueOf are what the document says of keys and of a record's value.
func recordKey(ino uint32) string {
	return string(binary.BigEndian.AppendUint32(nil, ino)) + "\x01" + strings.Repeat("\x00", 9)
}

func chunkKey(ino uint32, n int) string {
	return string(binary.BigEndian.AppendUint32(nil, ino)) + "\x03\x00\x00\x00" + string([]byte{byte(n)}) + strings.Repeat("\x00", 5)
}

func valueOf(i api.Inode) string {
	return string([]byte{byte(i.Kind), byte(i.Mode >> 8), byte(i.Mode), byte(i.Links), byte(i.Size >> 8), byte(i.Size)})
}

func file(size int) api.Inode { return api.Inode{Kind: api.File, Mode: 6, Links: 2, Size: size} }

func dir() api.Inode { return api.Inode{Kind: api.Dir, Mode: 6, Links: 1} }

// textOf is n bytes, none of them 0, such that no chunk is like another one.
func textOf(n int) string {
	b := make([]byte, n)
	for i := range b {
		b[i] = byte(1 + (i*7+i/32*3)%251)
	}
	return string(b)
}

func noughts(n int) string { return strings.Repeat("\x00", n) }

// bounds are 0 to most, but those that are far from where a chunk ends and from its middle.
func bounds(most int) []int {
	var l []int
	for n := range most + 1 {
		if at := n % 32; at < 2 || at == 16 || at > 29 {
			l = append(l, n)
		}
	}
	return l
}

func chunk(n int) api.Place { return api.Place{Ino: 7, Part: api.Data, Chunk: uint32(n)} }

// patched is the change that lays data into a chunk from the byte at on.
func patched(n, at int, data string) api.Change {
	c := api.Change{Place: chunk(n)}
	for i := range len(data) {
		c.Patch.Mask |= 1 << (at + i)
		c.Patch.Bytes[at+i] = data[i]
	}
	return c
}

// zeroed is the one that lays noughts from the byte at on up to the chunk's end.
func zeroed(n, at int) api.Change { return patched(n, at, noughts(32-at)) }

func gone(n int) api.Change { return api.Change{Place: chunk(n), Gone: true} }

func sized(n int) api.Change {
	return api.Change{Place: api.Place{Ino: 7, Part: api.Record}, Fields: api.SetSize, Inode: api.Inode{Size: n}}
}

// size and bytes are touches of the inode 7.
func size() api.Touch { return api.Touch{Kind: api.Size, Ino: 7} }

func bytes(lo, hi int) api.Touch { return api.Touch{Kind: api.Bytes, Ino: 7, Lo: lo, Hi: hi} }

// rig is a sight, and all that can be told of what was done through it.
type rig struct {
	t       *testing.T
	base    *store
	delta   *delta.Delta
	sight   *inode.Sight
	changes []api.Change
	read    []api.Touch
	written []api.Touch
}

// rigOf has a base in which the inode 7 is i, with so many bytes of data as it has, those of 6 and 8 are others, and room for so many places.
func rigOf(t *testing.T, most int, i api.Inode, data string) *rig {
	t.Helper()
	r := &rig{t: t, base: &store{values: map[string]string{}, faults: map[string]api.Errno{}}, delta: delta.New(most)}
	r.base.values[recordKey(7)] = valueOf(i)
	for n := range (len(data) + 31) / 32 {
		r.base.values[chunkKey(7, n)] = (data + noughts(31))[32*n : 32*n+32]
	}
	for _, other := range []uint32{6, 8} {
		r.base.values[recordKey(other)] = valueOf(file(512))
		for n := range 16 {
			r.base.values[chunkKey(other, n)] = strings.Repeat("o", 32)
		}
	}
	r.sight = &inode.Sight{V: view.New(r.base, r.delta), Reads: reads.New(), Writes: reads.New(), Alloc: func() uint32 {
		t.Error("a number was asked for")
		return 0
	}}
	return r
}

// rigWith is of a file with these bytes.
func rigWith(t *testing.T, data string) *rig {
	t.Helper()
	return rigOf(t, api.MaxPlaces, file(len(data)), data)
}

// wantPuts: behind what was there when this was asked last, just these changes were put in.
func (r *rig) wantPuts(want ...api.Change) {
	r.t.Helper()
	r.changes = append(r.changes, want...)
	if got := r.delta.Mark(); got != len(r.changes) {
		r.t.Errorf("%d changes were put in, want %d: %+v", got, len(r.changes), r.delta.All())
		return
	}
	like := delta.New(math.MaxInt)
	for _, c := range r.changes {
		if err := like.Put(c); err != api.OK {
			r.t.Errorf("Put(%+v): got %d", c, err)
		}
	}
	if !slices.Equal(r.delta.All(), like.All()) {
		r.t.Errorf("the delta:\ngot  %+v\nwant %+v", r.delta.All(), like.All())
	}
}

// wantPutsBackwards undoes one change after the other, so that their order is seen. Nothing may be asked of the rig behind that.
func (r *rig) wantPutsBackwards() {
	r.t.Helper()
	like := delta.New(math.MaxInt)
	for _, c := range r.changes {
		like.Put(c)
	}
	for mark := len(r.changes); mark >= 0; mark-- {
		r.delta.Undo(mark)
		like.Undo(mark)
		if !slices.Equal(r.delta.All(), like.All()) {
			r.t.Errorf("the delta at %d:\ngot  %+v\nwant %+v", mark, r.delta.All(), like.All())
		}
	}
}

// wantRead and wantWritten: behind what was there when this was asked last, just these were added, in this order.
func (r *rig) wantRead(want ...api.Touch) {
	r.t.Helper()
	r.read = append(r.read, want...)
	if got := r.sight.Reads.All(); !slices.Equal(got, r.read) {
		r.t.Errorf("read: got %+v, want %+v", got, r.read)
	}
}

func (r *rig) wantWritten(want ...api.Touch) {
	r.t.Helper()
	r.written = append(r.written, want...)
	if got := r.sight.Writes.All(); !slices.Equal(got, r.written) {
		r.t.Errorf("written: got %+v, want %+v", got, r.written)
	}
}

// wantNothing: nothing was put in, read, written.
func (r *rig) wantNothing() {
	r.t.Helper()
	r.wantPuts()
	r.wantRead()
	r.wantWritten()
}

// wantAsked: of the base just these chunks were asked for, in this order, since this was asked last.
func (r *rig) wantAsked(want ...int) {
	r.t.Helper()
	var got, keys []string
	for _, key := range r.base.gets {
		if key != recordKey(7) {
			got = append(got, key)
		}
	}
	for _, n := range want {
		keys = append(keys, chunkKey(7, n))
	}
	if !slices.Equal(got, keys) {
		r.t.Errorf("the base was asked for %q, want %q", got, keys)
	}
	r.base.gets = nil
}

// put puts changes in past the layer's functions, as what was there ahead of them.
func (r *rig) put(l ...api.Change) {
	r.t.Helper()
	for _, c := range l {
		if err := r.sight.V.Put(c); err != api.OK {
			r.t.Errorf("Put(%+v): got %d", c, err)
		}
	}
	r.changes = append(r.changes, l...)
}

func (r *rig) wantReadOf(ino uint32, off, n int, want string, wantErr api.Errno) {
	r.t.Helper()
	if got, err := extent.Read(r.sight, ino, off, n); got != want || err != wantErr {
		r.t.Errorf("Read(%d, %d, %d): got %q, %d; want %q, %d", ino, off, n, got, err, want, wantErr)
	}
}

func (r *rig) wantWriteOf(ino uint32, off int, data string, want api.Errno) {
	r.t.Helper()
	if err := extent.Write(r.sight, ino, off, data); err != want {
		r.t.Errorf("Write(%d, %d, %.70q): got %d, want %d", ino, off, data, err, want)
	}
}

func (r *rig) wantTruncateOf(ino uint32, size int, want api.Errno) {
	r.t.Helper()
	if err := extent.Truncate(r.sight, ino, size); err != want {
		r.t.Errorf("Truncate(%d, %d): got %d, want %d", ino, size, err, want)
	}
}

// wantInode: this is the inode 7, as the view itself tells it: no call of the layer is made.
func (r *rig) wantInode(want api.Inode) {
	r.t.Helper()
	if x, is, err := r.sight.V.Get(api.Place{Ino: 7, Part: api.Record}); x.Inode != want || !is || err != api.OK {
		r.t.Errorf("got %+v, %v, %d; want %+v", x.Inode, is, err, want)
	}
}

// chunksOf are all bytes that stand in the chunks of an inode, also behind its Size.
func (r *rig) chunksOf(ino uint32) string {
	r.t.Helper()
	all := ""
	for n := range 16 {
		x, _, err := r.sight.V.Get(api.Place{Ino: ino, Part: api.Data, Chunk: uint32(n)})
		if err != api.OK {
			r.t.Errorf("the chunk %d of %d: got %d", n, ino, err)
		}
		all += string(x.Bytes[:])
	}
	return all
}

// wantFile: the inode 7 is a file with these bytes, behind which all is 0; its neighbours are as they were.
func (r *rig) wantFile(data string) {
	r.t.Helper()
	r.wantInode(file(len(data)))
	if got, want := r.chunksOf(7), data+noughts(512-len(data)); got != want {
		r.t.Errorf("the chunks:\ngot  %q\nwant %q", got, want)
	}
	for _, other := range []uint32{6, 8} {
		if got := r.chunksOf(other); got != strings.Repeat("o", 512) {
			r.t.Errorf("the chunks of %d: got %q", other, got)
		}
	}
}

// wantAll: each call of the number, with arguments that are no fault of their own, is refused by this error, and does nothing at all.
func (r *rig) wantAll(ino uint32, want api.Errno) {
	r.t.Helper()
	for _, off := range []int{0, 1, 511, 512, 513, math.MaxInt} {
		for _, n := range []int{0, 1, 64} {
			r.wantReadOf(ino, off, n, "", want)
			r.wantWriteOf(ino, off, textOf(n), want)
		}
	}
	for _, size := range []int{0, 1, 512, 513, -1, math.MinInt, math.MaxInt} {
		r.wantTruncateOf(ino, size, want)
	}
	r.wantNothing()
}

// wantArg: what is a fault of the arguments' own is ErrArg, whatever the inode is, and nothing at all is done; the base is not asked.
func (r *rig) wantArg(ino uint32) {
	r.t.Helper()
	r.base.gets = nil
	for _, off := range []int{-1, -2, -32, math.MinInt32, math.MinInt} {
		for _, n := range []int{0, 1, 64, 65, -1} {
			r.wantReadOf(ino, off, n, "", api.ErrArg)
			r.wantWriteOf(ino, off, textOf(max(n, 0)), api.ErrArg)
		}
	}
	for _, off := range []int{0, 1, 40, 448, 512, math.MaxInt} {
		for _, n := range []int{-1, -2, -64, math.MinInt, 65, 66, 128, 1 << 32, math.MaxInt} {
			r.wantReadOf(ino, off, n, "", api.ErrArg)
		}
		for _, n := range []int{65, 66, 512, 600} {
			r.wantWriteOf(ino, off, textOf(n), api.ErrArg)
		}
	}
	if len(r.base.gets) != 0 {
		r.t.Errorf("the base was asked for %q", r.base.gets)
	}
	r.wantNothing()
}

// faults are errors that a base may have, also such as no layer has.
var faults = []api.Errno{api.ErrDown, api.ErrPage, api.ErrForm, api.ErrStale, api.ErrArg, api.ErrIsDir, api.ErrSize, -1, 9999}
