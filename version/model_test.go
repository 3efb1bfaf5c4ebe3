package version_test

import (
	"math/rand"
	"slices"
	"testing"

	"armoire/api"
	"armoire/version"
)

// model is what the document says of a registry, in the plainest form: all versions from New on, and of whoever sees one its place in that list.
type model struct {
	first  uint64
	roots  []uint32
	places []int
	sees   []int // by the snapshot's number less 1; -1: it was closed
	base   int
}

func newModel(root uint32, at uint64) *model {
	return &model{first: at, roots: []uint32{root}, places: []int{0}}
}

func (m *model) trunk() int { return len(m.roots) - 1 }

func (m *model) version(i int) uint64 { return m.first + uint64(i) }

func (m *model) open(id int) bool { return id >= 1 && id <= len(m.sees) && m.sees[id-1] >= 0 }

func (m *model) next(root uint32, places int) api.Errno {
	if places < 0 {
		return api.ErrArg
	}
	m.roots = append(m.roots, root)
	m.places = append(m.places, places)
	return api.OK
}

func (m *model) close(id int) api.Errno {
	if !m.open(id) {
		return api.ErrNone
	}
	m.sees[id-1] = -1
	return api.OK
}

func (m *model) horizon() int {
	eldest := m.trunk()
	for _, i := range m.sees {
		if i >= 0 {
			eldest = min(eldest, i)
		}
	}
	return eldest
}

func (m *model) window() int {
	sum := 0
	for i := m.base + 1; i <= m.trunk(); i++ {
		sum += m.places[i]
	}
	return sum
}

func (m *model) kept() []uint32 {
	l := []uint32{m.roots[m.trunk()]}
	for _, i := range m.sees {
		if i >= 0 {
			l = append(l, m.roots[i])
		}
	}
	return slices.Compact(slices.Sorted(slices.Values(l)))
}

// step makes one and the same call on both, and holds the answers against each other.
func step(t *testing.T, rnd *rand.Rand, r *version.Registry, m *model) {
	t.Helper()
	switch rnd.Intn(9) {
	case 0, 1:
		m.sees = append(m.sees, m.trunk())
		wantOpen(t, r, len(m.sees), m.roots[m.trunk()], m.version(m.trunk()))
	case 2, 3, 4:
		id := rnd.Intn(len(m.sees)+4) - 1
		wantClose(t, r, id, m.close(id))
	case 5, 6, 7:
		root, places := rnd.Uint32()>>(rnd.Intn(33)), rnd.Intn(20)-3
		wantNext(t, r, root, places, m.next(root, places))
	case 8:
		r.Settle()
		m.base = m.horizon()
		if m.base == m.trunk() && r.Window() != 0 {
			t.Errorf("Window behind Settle: got %d", r.Window())
		}
	}
}

// wantSame asks both for all that can be asked.
func wantSame(t *testing.T, r *version.Registry, m *model) {
	t.Helper()
	wantTrunk(t, r, m.roots[m.trunk()], m.version(m.trunk()))
	wantSeen(t, r, m.version(m.horizon()), m.window(), m.kept()...)
	if m.base > m.horizon() {
		t.Errorf("the base is above the Horizon")
	}
	for id := -1; id <= len(m.sees)+2; id++ {
		if m.open(id) {
			i := m.sees[id-1]
			wantSnapshot(t, r, id, m.roots[i], m.version(i))
		} else {
			wantNone(t, r, id)
		}
	}
}

// P10.1 to P10.5: long rows of calls, held against the plainest form, from versions on with which the numbers begin anew too.
func TestAgainstModel(t *testing.T) {
	rnd := rand.New(rand.NewSource(10))
	for _, at := range []uint64{0, 1, 1 << 40, 1<<63 - 20, lastVersion - 40, lastVersion - 5, lastVersion} {
		for range 20 {
			root := rnd.Uint32()
			r, m := newRegistry(t, root, at), newModel(root, at)
			for range 150 {
				step(t, rnd, r, m)
				wantSame(t, r, m)
			}
			if t.Failed() {
				return
			}
		}
	}
}

// P10.5: the base is never above the Horizon: what a snapshot does not see yet is in the Window as long as it is open, whatever is settled, opened and closed meanwhile.
func TestBaseIsNeverAboveHorizon(t *testing.T) {
	r := newRegistry(t, 7, 0)
	wantNext(t, r, 8, 50, api.OK)
	wantOpen(t, r, 1, 8, 1)
	for i := range 30 {
		wantNext(t, r, 9, 2, api.OK)
		id, _, _ := r.Open()
		r.Settle()
		wantSeen(t, r, 1, 2*(i+1), 8, 9)
		wantClose(t, r, id, api.OK)
		r.Settle()
		wantSeen(t, r, 1, 2*(i+1), 8, 9)
	}
	wantClose(t, r, 1, api.OK)
	wantSeen(t, r, 31, 60, 9)
	r.Settle()
	wantSeen(t, r, 31, 0, 9)
}
