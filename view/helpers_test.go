package view_test

import (
	"encoding/binary"
	"iter"
	"math"
	"slices"
	"strings"
	"testing"

	"armoire/api"
	"armoire/delta"
	"armoire/item"
	"armoire/trunk"
	"armoire/view"
)

// store is a base of some pairs, by their keys. It writes down what it is asked for.
type store struct {
	pairs []api.KV
	fault api.Errno // what Get answers, and From at the end of its pairs, if it is not OK
	wild  bool      // a fault has a value and a pair beside it; so has what is not there
	gets  []string
	froms []string
	told  []string // the keys of From, ahead of each of which somebody asked for more
}

func (s *store) Get(key string) (string, bool, api.Errno) {
	s.gets = append(s.gets, key)
	if s.fault != api.OK {
		return "beside", s.wild, s.fault
	}
	for _, p := range s.pairs {
		if p.Key == key {
			return p.Value, true, api.OK
		}
	}
	if s.wild {
		return "\x00\x00\x00\x09", false, api.OK
	}
	return "", false, api.OK
}

func (s *store) From(key string) iter.Seq2[api.KV, api.Errno] {
	s.froms = append(s.froms, key)
	return func(yield func(api.KV, api.Errno) bool) {
		for _, p := range s.pairs {
			if p.Key < key {
				continue
			}
			s.told = append(s.told, p.Key)
			if !yield(p, api.OK) {
				return
			}
		}
		if s.fault == api.OK {
			return
		}
		beside := api.KV{}
		if s.wild {
			beside = kv(entry(1, "beside"), leadsTo(9))
		}
		yield(beside, s.fault)
	}
}

// asked is how often the base was asked for something.
func (s *store) asked() int { return len(s.gets) + len(s.froms) }

// storeOf is a base of pairs in whatever order.
func storeOf(pairs ...api.KV) *store {
	pairs = slices.Clone(pairs)
	slices.SortFunc(pairs, func(a, b api.KV) int { return strings.Compare(a.Key, b.Key) })
	return &store{pairs: pairs}
}

// do does steps on the pairs, one behind the other.
func (s *store) do(steps []trunk.Step) *store {
	m := map[string]string{}
	for _, p := range s.pairs {
		m[p.Key] = p.Value
	}
	for _, step := range steps {
		delete(m, step.Key)
		if !step.Gone {
			m[step.Key] = step.Value
		}
	}
	var l []api.KV
	for key, value := range m {
		l = append(l, api.KV{Key: key, Value: value})
	}
	return storeOf(l...)
}

func record(ino uint32) api.Place { return api.Place{Ino: ino, Part: api.Record} }

func entry(ino uint32, name string) api.Place {
	return api.Place{Ino: ino, Part: api.Entry, Name: name}
}

func data(ino, n uint32) api.Place { return api.Place{Ino: ino, Part: api.Data, Chunk: n} }

// key is what the document says of the key of a place that may be.
func key(p api.Place) string {
	k := string(binary.BigEndian.AppendUint32(nil, p.Ino)) + string(rune(p.Part))
	switch p.Part {
	case api.Entry:
		k += p.Name
	case api.Data:
		k += string(binary.BigEndian.AppendUint32(nil, p.Chunk))
	}
	return k + strings.Repeat("\x00", api.MaxKey-len(k))
}

// value is what the document says of the value of an item that may be.
func value(part int, x item.Item) string {
	switch part {
	case api.Record:
		i := x.Inode
		return string([]byte{byte(i.Kind), byte(i.Mode >> 8), byte(i.Mode), byte(i.Links), byte(i.Size >> 8), byte(i.Size)})
	case api.Entry:
		return string(binary.BigEndian.AppendUint32(nil, x.To))
	}
	return string(x.Bytes[:])
}

func kv(p api.Place, x item.Item) api.KV { return api.KV{Key: key(p), Value: value(p.Part, x)} }

func inode(kind, mode, links, size int) item.Item {
	return item.Item{Inode: api.Inode{Kind: kind, Mode: mode, Links: links, Size: size}}
}

func leadsTo(to uint32) item.Item { return item.Item{To: to} }

func bytesOf(text string) item.Item {
	var x item.Item
	copy(x.Bytes[:], text)
	return x
}

func gone(p api.Place) api.Change { return api.Change{Place: p, Gone: true} }

func fresh(p api.Place, x item.Item) api.Change {
	return api.Change{Place: p, Fresh: true, Inode: x.Inode}
}

func fields(p api.Place, sum, mode, links, size int) api.Change {
	return api.Change{Place: p, Fields: sum, Inode: api.Inode{Mode: mode, Links: links, Size: size}}
}

func mode(p api.Place, n int) api.Change { return fields(p, api.SetMode, n, 0, 0) }

func link(p api.Place, n int) api.Change { return fields(p, api.SetLinks, 0, n, 0) }

func size(p api.Place, n int) api.Change { return fields(p, api.SetSize, 0, 0, n) }

func leads(p api.Place, to uint32) api.Change { return api.Change{Place: p, To: to} }

// text is a change of a chunk that lays text from the byte off on.
func text(p api.Place, off int, text string) api.Change {
	c := api.Change{Place: p}
	for i := range len(text) {
		c.Patch.Mask |= 1 << (off + i)
		c.Patch.Bytes[off+i] = text[i]
	}
	return c
}

func anew(c api.Change) api.Change {
	c.Patch.Fresh = true
	return c
}

// wrongPlaces are such as may not be.
func wrongPlaces() []api.Place {
	l := []api.Place{
		{}, record(0), entry(0, "a"), data(0, 0),
		entry(1, ""), entry(1, "."), entry(1, ".."), entry(1, "a/b"), entry(1, "/"), entry(1, "a\x00"), entry(1, "abcdefghi"),
		data(1, 16), data(1, math.MaxUint32),
		{Ino: 1, Part: api.Record, Name: "a"}, {Ino: 1, Part: api.Record, Chunk: 1},
		{Ino: 1, Part: api.Entry, Name: "a", Chunk: 1}, {Ino: 1, Part: api.Data, Name: "a"},
	}
	for _, part := range []int{math.MinInt, -1, api.NoPart, 4, 5, 256 + api.Record, 1<<32 + api.Data, math.MaxInt} {
		l = append(l, api.Place{Ino: 1, Part: part}, api.Place{Ino: 1, Part: part, Name: "a"})
	}
	return l
}

// wrongValues are such as are no item's of a part.
func wrongValues(part int) []string {
	l := []string{"", "x", strings.Repeat("x", 5), strings.Repeat("\x01", 7), strings.Repeat("x", 31), strings.Repeat("x", 33), strings.Repeat("x", 34)}
	switch part {
	case api.Record:
		l = append(l, value(api.Entry, leadsTo(7)), value(api.Data, bytesOf("x")), "\x00\x00\x00\x00\x00\x00", "\x03\x00\x06\x01\x00\x00", "\x01\x02\x00\x01\x00\x00", "\x01\x00\x06\x00\x00\x00", "\x01\x00\x06\x10\x00\x00", "\x01\x00\x06\x01\x02\x01", "\x02\x00\x06\x02\x00\x00", "\x02\x00\x06\x01\x00\x01")
	case api.Entry:
		l = append(l, "\x00\x00\x00\x00", value(api.Record, inode(api.File, 6, 1, 0)), value(api.Data, bytesOf("x")))
	case api.Data:
		l = append(l, value(api.Entry, leadsTo(7)), value(api.Record, inode(api.File, 6, 1, 0)))
	}
	return l
}

// faults are errors that a base may have, also such as no layer has.
var faults = []api.Errno{api.ErrDown, api.ErrPage, api.ErrForm, api.ErrState, api.ErrPlace, api.ErrArg, -1, 9999}

// viewOf is a view of b with some changes.
func viewOf(t *testing.T, b view.Base, l ...api.Change) *view.View {
	t.Helper()
	v := view.New(b, delta.New(api.MaxPlaces))
	for _, c := range l {
		wantPut(t, v, c, api.OK)
	}
	return v
}

func wantPut(t *testing.T, v *view.View, c api.Change, want api.Errno) {
	t.Helper()
	if err := v.Put(c); err != want {
		t.Errorf("Put(%+v): got %d, want %d", c, err, want)
	}
}

func wantGet(t *testing.T, v *view.View, p api.Place, want item.Item) {
	t.Helper()
	if x, is, err := v.Get(p); x != want || !is || err != api.OK {
		t.Errorf("Get(%+v):\ngot  %+v, %v, %d\nwant %+v", p, x, is, err, want)
	}
}

// wantNone: nothing stands there, for no reason (api.OK) or for one.
func wantNone(t *testing.T, v *view.View, p api.Place, want api.Errno) {
	t.Helper()
	if x, is, err := v.Get(p); x != (item.Item{}) || is || err != want {
		t.Errorf("Get(%+v): got %+v, %v, %d; want nothing, %d", p, x, is, err, want)
	}
}

// namesTold are the names that are told, and the error that ended it.
func namesTold(t *testing.T, seq iter.Seq2[string, api.Errno]) ([]string, api.Errno) {
	t.Helper()
	var names []string
	end := api.OK
	for name, err := range seq {
		if end != api.OK {
			t.Errorf("%q, %d is told behind the error %d", name, err, end)
		}
		if end = err; err == api.OK {
			names = append(names, name)
		} else if name != "" {
			t.Errorf("%q is told beside the error %d", name, err)
		}
	}
	return names, end
}

func wantNames(t *testing.T, v *view.View, ino uint32, wantErr api.Errno, want ...string) {
	t.Helper()
	if names, err := namesTold(t, v.Names(ino)); !slices.Equal(names, want) || err != wantErr {
		t.Errorf("Names(%d): got %q, %d; want %q, %d", ino, names, err, want, wantErr)
	}
}

func wantSteps(t *testing.T, b view.Base, l []api.Change, want ...trunk.Step) {
	t.Helper()
	if steps, err := view.Steps(b, l); !slices.Equal(steps, want) || err != api.OK {
		t.Errorf("Steps(%+v):\ngot  %+v, %d\nwant %+v", l, steps, err, want)
	}
}

func wantNoSteps(t *testing.T, b view.Base, want api.Errno, l ...api.Change) {
	t.Helper()
	if steps, err := view.Steps(b, l); len(steps) != 0 || err != want {
		t.Errorf("Steps(%+v): got %+v, %d; want nothing, %d", l, steps, err, want)
	}
}

// stepTo is the step behind which x stands at a place, stepGone the one behind which nothing does.
func stepTo(p api.Place, x item.Item) trunk.Step {
	return trunk.Step{Key: key(p), Value: value(p.Part, x)}
}

func stepGone(p api.Place) trunk.Step { return trunk.Step{Key: key(p), Gone: true} }
