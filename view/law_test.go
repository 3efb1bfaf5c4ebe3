package view_test

import (
	"iter"
	"math/rand"
	"testing"

	"armoire/api"
	"armoire/delta"
	"armoire/disk"
	"armoire/item"
	"armoire/trunk"
	"armoire/view"
)

// tree is what stands at places: a plain model.
type tree map[api.Place]item.Item

// pool are places that a tree of the tests may have.
func pool() []api.Place {
	var l []api.Place
	for ino := uint32(1); ino <= 3; ino++ {
		l = append(l, record(ino), data(ino, 0), data(ino, 1), data(ino, 15))
		for _, name := range []string{"a", "a\x01", "b", "\xff"} {
			l = append(l, entry(ino, name))
		}
	}
	return l
}

// anyItem is one that may stand at a place. Records are files': of these any fields may be set.
func anyItem(r *rand.Rand, p api.Place) item.Item {
	switch p.Part {
	case api.Record:
		return inode(api.File, r.Intn(512), 1+r.Intn(15), r.Intn(513))
	case api.Entry:
		return leadsTo(1 + r.Uint32()>>1)
	}
	var x item.Item
	r.Read(x.Bytes[:])
	return x
}

// anyChange is one that may be, of a place.
func anyChange(r *rand.Rand, p api.Place) api.Change {
	if r.Intn(4) == 0 {
		return gone(p)
	}
	x := anyItem(r, p)
	switch p.Part {
	case api.Record:
		if r.Intn(3) == 0 {
			return fresh(p, x)
		}
		sum := 1 + r.Intn(7)
		return fields(p, sum, x.Inode.Mode*(sum%2), x.Inode.Links*(sum/2%2), x.Inode.Size*(sum/4))
	case api.Entry:
		return leads(p, x.To)
	}
	off := r.Intn(32)
	c := text(p, off, string(x.Bytes[off:off+r.Intn(33-off)]))
	c.Patch.Fresh = r.Intn(4) == 0
	return c
}

func anyTree(r *rand.Rand) tree {
	m := tree{}
	for _, p := range pool() {
		if r.Intn(2) == 0 {
			m[p] = anyItem(r, p)
		}
	}
	return m
}

// base is the tree's, among keys that are no places'.
func (m tree) base() *store {
	l := []api.KV{{Key: "\x00\x00\x00\x01\x02a/\x00\x00\x00\x00\x00\x00\x00", Value: "no"}}
	for p, x := range m {
		l = append(l, kv(p, x))
	}
	return storeOf(l...)
}

// do does what the document says of a change; whether it can be done.
func (m tree) do(c api.Change) bool {
	x, is := m[c.Place]
	switch {
	case c.Gone:
		delete(m, c.Place)
		return true
	case c.Fresh:
		x = item.Item{Inode: c.Inode}
	case c.Place.Part == api.Entry:
		x = item.Item{To: c.To}
	case c.Place.Part == api.Data:
		for i := range x.Bytes {
			if c.Patch.Mask&(1<<i) != 0 {
				x.Bytes[i] = c.Patch.Bytes[i]
			} else if c.Patch.Fresh {
				x.Bytes[i] = 0
			}
		}
	case !is:
		return false
	default:
		for i, field := range []*int{&x.Inode.Mode, &x.Inode.Links, &x.Inode.Size} {
			if c.Fields&(1<<i) != 0 {
				*field = []int{c.Inode.Mode, c.Inode.Links, c.Inode.Size}[i]
			}
		}
	}
	m[c.Place] = x
	return true
}

// wantTree: a view sees just that.
func wantTree(t *testing.T, v *view.View, m tree) {
	t.Helper()
	names := map[uint32][]string{}
	for _, p := range pool() {
		x, is := m[p]
		if is {
			wantGet(t, v, p, x)
		} else {
			wantNone(t, v, p, api.OK)
		}
		if is && p.Part == api.Entry {
			names[p.Ino] = append(names[p.Ino], p.Name)
		}
	}
	for ino := uint32(1); ino <= 4; ino++ {
		wantNames(t, v, ino, api.OK, names[ino]...)
	}
}

// clone is another tree of the same.
func (m tree) clone() tree {
	c := tree{}
	for p, x := range m {
		c[p] = x
	}
	return c
}

// P14.5: a view without a change sees its base.
func TestViewWithoutAChange(t *testing.T) {
	r := rand.New(rand.NewSource(14))
	wantTree(t, viewOf(t, storeOf()), tree{})
	for range 50 {
		m := anyTree(r)
		wantTree(t, viewOf(t, m.base()), m)
	}
}

// P14.5: steps done on the base make what the view sees; so do those of the Puts, one behind the other, as they were done.
func TestStepsMakeWhatTheViewSees(t *testing.T) {
	r := rand.New(rand.NewSource(141))
	for range 400 {
		m := anyTree(r)
		b, d := m.base(), delta.New(api.MaxPlaces)
		v := view.New(b, d)
		var puts []api.Change
		for range r.Intn(60) {
			p := pool()[r.Intn(len(pool()))]
			c := anyChange(r, p)
			// Fields of no record: the delta takes them where it knows of no record; that is not asked here.
			if !m.clone().do(c) {
				continue
			}
			wantPut(t, v, c, api.OK)
			m.do(c)
			puts = append(puts, c)
		}
		wantTree(t, v, m)
		for _, l := range [][]api.Change{d.All(), puts} {
			steps, err := view.Steps(b, l)
			if err != api.OK || len(steps) != len(l) {
				t.Fatalf("Steps(%+v): got %+v, %d", l, steps, err)
			}
			wantTree(t, viewOf(t, b.do(steps)), m)
		}
		wantTree(t, v, m)
		if t.Failed() {
			t.Fatalf("the changes were %+v", puts)
		}
	}
}

// P14.5: what was undone is seen no more.
func TestViewOfWhatWasUndone(t *testing.T) {
	r := rand.New(rand.NewSource(142))
	for range 50 {
		m := anyTree(r)
		d := delta.New(api.MaxPlaces)
		v := view.New(m.base(), d)
		seen := []tree{m.clone()}
		for d.Mark() < 20 {
			c := anyChange(r, pool()[r.Intn(len(pool()))])
			if m.do(c) {
				wantPut(t, v, c, api.OK)
				seen = append(seen, m.clone())
			}
		}
		for mark := 20; mark >= 0; mark -= 1 + r.Intn(3) {
			if err := d.Undo(mark); err != api.OK {
				t.Fatalf("Undo(%d): got %d", mark, err)
			}
			wantTree(t, v, seen[mark])
		}
	}
}

// snapshot is a version of a trunk as a base.
type snapshot struct {
	trunk *trunk.Trunk
	root  uint32
}

func (s snapshot) Get(key string) (string, bool, api.Errno) { return s.trunk.Get(s.root, key) }

func (s snapshot) From(key string) iter.Seq2[api.KV, api.Errno] { return s.trunk.From(s.root, key) }

// P14.5: on a trunk: views of elder versions see what they saw, and their changes are laid upon the last one.
func TestViewOfATrunk(t *testing.T) {
	r := rand.New(rand.NewSource(143))
	d, err := disk.New(api.MaxBlocks)
	if err != api.OK {
		t.Fatalf("disk.New: got %d", err)
	}
	x, err := trunk.Make(d, nil, 2)
	if err != api.OK {
		t.Fatalf("Make: got %d", err)
	}
	m := tree{}
	for range 30 {
		elder, was := viewOf(t, snapshot{x, x.Root()}), m.clone()
		var l []api.Change
		for _, p := range pool() {
			if c := anyChange(r, p); r.Intn(6) == 0 && m.do(c) {
				l = append(l, c)
			}
		}
		own := viewOf(t, snapshot{x, x.Root()}, l...)
		wantTree(t, own, m)
		steps, err := view.Steps(snapshot{x, x.Root()}, l)
		if err != api.OK {
			t.Fatalf("Steps(%+v): got %d", l, err)
		}
		if err := x.Commit(steps, 2); err != api.OK {
			t.Fatalf("Commit: got %d", err)
		}
		wantTree(t, viewOf(t, snapshot{x, x.Root()}), m)
		wantTree(t, own, m)
		wantTree(t, elder, was)
		if t.Failed() {
			t.Fatalf("the changes were %+v", l)
		}
		if _, err := x.Reclaim(nil); err != api.OK {
			t.Fatalf("Reclaim: got %d", err)
		}
	}
}

// P14.2, P14.3, P14.4: with the power off what asks the base is refused, what does not is told.
func TestViewWithThePowerOff(t *testing.T) {
	d, _ := disk.New(api.MinBlocks)
	x, err := trunk.Make(d, []api.KV{kv(record(1), inode(api.Dir, 0, 1, 0)), kv(entry(1, "a"), leadsTo(2))}, 3)
	if err != api.OK {
		t.Fatalf("Make: got %d", err)
	}
	b := snapshot{x, x.Root()}
	v := viewOf(t, b, leads(entry(1, "b"), 2), mode(record(1), 7))
	wantNames(t, v, 1, api.OK, "a", "b")
	d.Cut("")
	wantNone(t, v, entry(1, "a"), api.ErrDown)
	wantNone(t, v, record(1), api.ErrDown)
	wantGet(t, v, entry(1, "b"), leadsTo(2))
	wantNames(t, v, 1, api.ErrDown)
	wantNoSteps(t, b, api.ErrDown, mode(record(1), 7))
	wantSteps(t, b, []api.Change{leads(entry(1, "b"), 2)}, stepTo(entry(1, "b"), leadsTo(2)))
	d.Power()
	wantGet(t, v, record(1), inode(api.Dir, 7, 1, 0))
	wantNames(t, v, 1, api.OK, "a", "b")
}
