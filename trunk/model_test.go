package trunk_test

import (
	"fmt"
	"math/rand"
	"slices"
	"testing"

	"armoire/api"
	"armoire/disk"
	"armoire/trunk"
)

// made is a version: what was seen of it, its root, and how many steps made it.
type made struct {
	seen
	root  uint32
	steps int
}

// model is what the document says of a trunk, in the plainest form: all versions from Make or Open on, and which of them are there.
type model struct {
	blocks int
	all    []made
	there  []int // places in that list, rising
	base   int   // the eldest that was there at the last Reclaim
}

func newModel(blocks int, s seen, root uint32) *model {
	return &model{blocks: blocks, all: []made{{seen: s, root: root}}, there: []int{0}}
}

func (m *model) trunk() made { return m.all[len(m.all)-1] }

func (m *model) changed() int {
	sum := 0
	for _, v := range m.all[m.base+1:] {
		sum += v.steps
	}
	return sum
}

func (m *model) hasRoom(steps int) bool {
	return 82+m.trunk().items/4+4+9*m.changed()+10*steps <= m.blocks
}

func (m *model) commit(l []trunk.Step, next, root uint32) {
	m.all = append(m.all, made{seen: m.trunk().behind(l, next), root: root, steps: len(l)})
	m.there = append(m.there, len(m.all)-1)
}

// reclaim lets the trunk be there, and of each root of keep the last version that is.
func (m *model) reclaim(keep []uint32) {
	m.base = len(m.all) - 1
	kept := []int{m.base}
	for _, root := range keep {
		last := -1
		for _, i := range m.there {
			if m.all[i].root == root {
				last = i
			}
		}
		kept = append(kept, last)
		m.base = min(m.base, last)
	}
	slices.Sort(kept)
	m.there = slices.Compact(kept)
}

// check holds a trunk against it.
func (m *model) check(t *testing.T, d *disk.Disk, x *trunk.Trunk) {
	t.Helper()
	if x.Root() != m.trunk().root {
		t.Fatalf("Root: got %d, want %d", x.Root(), m.trunk().root)
	}
	wantSeen(t, x, m.trunk().seen)
	for _, i := range m.there {
		v := m.all[i]
		got := v.seen
		got.pairs = read(t, x, v.root)
		if !got.same(v.seen) {
			t.Fatalf("the root %d: got %v, want %v", v.root, got, v.seen)
		}
	}
	s := mustSpace(t, x, m.roots()...)
	wantSpace(t, d, s)
	wantBounds(t, x, s, m.changed())
}

// roots are those that are there, some of them perhaps twice.
func (m *model) roots() []uint32 {
	var l []uint32
	for _, i := range m.there {
		l = append(l, m.all[i].root)
	}
	return l
}

// someRoots are some of those that are there.
func (m *model) someRoots(r *rand.Rand) []uint32 {
	var l []uint32
	for _, root := range m.roots() {
		if r.Intn(4) == 0 {
			l = append(l, root)
		}
	}
	if len(l) > 0 && r.Intn(3) == 0 {
		l = append(l, l[0])
	}
	return l
}

// someSteps are few, many, or none, over so many keys.
func someSteps(r *rand.Rand, keys int) []trunk.Step {
	var l []trunk.Step
	for range []int{0, 1, 1, 2, 3, 8, 20, 64}[r.Intn(8)] {
		if r.Intn(5) < 2 {
			l = append(l, gone(r.Intn(keys)))
		} else {
			l = append(l, put(r.Intn(keys), fmt.Sprint(r.Intn(1000))))
		}
	}
	return l
}

// commitBoth commits, and holds the answer against the model's.
func commitBoth(t *testing.T, m *model, x *trunk.Trunk, l []trunk.Step, next uint32) {
	t.Helper()
	want := api.OK
	if !m.hasRoom(len(l)) {
		want = api.ErrFull
	}
	if err := x.Commit(l, next); err != want {
		t.Fatalf("Commit of %d steps: got %d, want %d", len(l), err, want)
	}
	if want == api.OK {
		m.commit(l, next, x.Root())
	}
}

// reclaimBoth reclaims, and looks that as many became free as waited.
func reclaimBoth(t *testing.T, m *model, x *trunk.Trunk, keep []uint32) {
	t.Helper()
	waited := len(mustSpace(t, x, keep...).Waiting)
	if n := mustReclaim(t, x, keep...); n != waited {
		t.Fatalf("Reclaim(%v): got %d, %d waited", keep, n, waited)
	}
	m.reclaim(keep)
	if s := mustSpace(t, x, keep...); len(s.Waiting) != 0 {
		t.Fatalf("behind Reclaim(%v) there wait %v", keep, s.Waiting)
	}
}

// reopen opens the trunk of a disk again: its pairs are the same, and no page waits.
func reopen(t *testing.T, m *model, d *disk.Disk) (*model, *trunk.Trunk) {
	t.Helper()
	x := mustOpen(t, d)
	m = newModel(m.blocks, m.trunk().seen, x.Root())
	if s := mustSpace(t, x); len(s.Waiting)+len(s.Held) != 0 {
		t.Fatalf("behind Open there wait %v, %v", s.Waiting, s.Held)
	}
	return m, x
}

// P11.3 to P11.7: long rows of calls, on small and on large disks, with few and with many keys.
func TestModel(t *testing.T) {
	for seed := range 40 {
		r := rand.New(rand.NewSource(int64(seed)))
		blocks := []int{192, 193, 256, 500, 1024}[seed%5]
		keys := []int{3, 12, 60, 400}[seed%4]
		d, x := newTrunk(t, blocks, pairs(seed%11)...)
		m := newModel(blocks, look(t, x), x.Root())
		for range 150 {
			switch n := r.Intn(40); {
			case n < 25:
				commitBoth(t, m, x, someSteps(r, keys), r.Uint32())
			case n < 35:
				reclaimBoth(t, m, x, m.someRoots(r))
			case n < 37:
				reclaimBoth(t, m, x, nil)
			default:
				cutAndPower(d, "")
				m, x = reopen(t, m, d)
			}
			m.check(t, d, x)
		}
	}
}

// P11.6: the same with the power cut in the midst of calls, of Open too: what was answered OK is there, and what was under way wholly or not at all.
func TestModelCut(t *testing.T) {
	for seed := range 30 {
		r := rand.New(rand.NewSource(int64(seed)))
		blocks := []int{192, 300, 1024}[seed%3]
		d, x := newTrunk(t, blocks, pairs(seed%11)...)
		m := newModel(blocks, look(t, x), x.Root())
		for range 120 {
			d.Arm(r.Intn(25), randomMask(r))
			may := []seen{m.trunk().seen}
			if r.Intn(4) == 0 {
				keep := m.someRoots(r)
				if _, err := x.Reclaim(keep); err == api.OK {
					m.reclaim(keep)
				}
			} else if l, next := someSteps(r, 40), r.Uint32(); m.hasRoom(len(l)) {
				after := may[0].behind(l, next)
				if x.Commit(l, next) == api.OK {
					m.commit(l, next, x.Root())
					may = may[:0]
				}
				may = append(may, after)
			}
			if !d.On() {
				m, x = openBehindCuts(t, r, d, m.blocks, may)
			}
			d.Arm(-1, "")
			m.check(t, d, x)
		}
	}
}

// openBehindCuts opens a trunk, some times with another cut on the way, which must then be one of those that may be.
func openBehindCuts(t *testing.T, r *rand.Rand, d *disk.Disk, blocks int, may []seen) (*model, *trunk.Trunk) {
	t.Helper()
	for range r.Intn(3) {
		d.Power()
		d.Arm(r.Intn(8), randomMask(r))
		trunk.Open(d)
		d.Cut(randomMask(r))
	}
	d.Power()
	x := mustOpen(t, d)
	got := look(t, x)
	if !slices.ContainsFunc(may, got.same) {
		t.Fatalf("got %v, want one of %v", got, may)
	}
	return newModel(blocks, got, x.Root()), x
}

func randomMask(r *rand.Rand) string {
	mask := make([]byte, r.Intn(40))
	for i := range mask {
		mask[i] = byte(r.Intn(2))
	}
	return string(mask)
}
