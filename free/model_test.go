package free_test

import (
	"math/rand"
	"slices"
	"testing"

	"armoire/api"
	"armoire/free"
)

// model is what the document says of a map, in the plainest form: each block's number as Is tells it.
type model struct {
	from int
	is   []int
}

func newModel(from, to int, taken []int) *model {
	m := &model{from: from}
	for i := from; i < to; i++ {
		if slices.Contains(taken, i) {
			m.is = append(m.is, 2)
		} else {
			m.is = append(m.is, 1)
		}
	}
	return m
}

func (m *model) what(i int) int {
	for k, is := range m.is {
		if m.from+k == i {
			return is
		}
	}
	return 0
}

func (m *model) list(is int) []int {
	var l []int
	for k, x := range m.is {
		if x == is {
			l = append(l, m.from+k)
		}
	}
	return l
}

func (m *model) run(n int) (int, api.Errno) {
	if n < 1 {
		return 0, api.ErrArg
	}
	for first := 0; first+n <= len(m.is); first++ {
		if slices.IndexFunc(m.is[first:first+n], func(is int) bool { return is != 1 }) >= 0 {
			continue
		}
		for i := range n {
			m.is[first+i] = 2
		}
		return m.from + first, api.OK
	}
	return 0, api.ErrFull
}

func (m *model) release(i, to int) api.Errno {
	if m.what(i) != 2 {
		return api.ErrNone
	}
	m.is[i-m.from] = to
	return api.OK
}

func (m *model) sweep(keep []int) int {
	n := 0
	for _, i := range m.list(3) {
		if !slices.Contains(keep, i) {
			m.is[i-m.from] = 1
			n++
		}
	}
	return n
}

// step makes one and the same call on both, and holds the answers against each other.
func step(t *testing.T, r *rand.Rand, m *free.Map, x *model) {
	t.Helper()
	near := x.from - 2 + r.Intn(len(x.is)+4)
	switch r.Intn(8) {
	case 0:
		want, err := x.run(1)
		wantTake(t, m, want, err)
	case 1, 2:
		n := r.Intn(6) - 1
		want, err := x.run(n)
		wantRun(t, m, n, want, err)
	case 3, 4:
		wantGive(t, m, near, x.release(near, 1))
	case 5, 6:
		wantDefer(t, m, near, x.release(near, 3))
	case 7:
		var keep []int
		for range r.Intn(len(x.is)) {
			keep = append(keep, x.from-2+r.Intn(len(x.is)+4))
		}
		wantSweep(t, m, keep, x.sweep(keep))
	}
}

// P6.1 to P6.5: long rows of calls, held against the plainest form; each block is one of the three at each step.
func TestAgainstModel(t *testing.T) {
	r := rand.New(rand.NewSource(6))
	for range 60 {
		from := r.Intn(40)
		to := from + 1 + r.Intn(30)
		taken := slices.DeleteFunc(span(from, to), func(int) bool { return r.Intn(3) > 0 })
		r.Shuffle(len(taken), func(i, j int) { taken[i], taken[j] = taken[j], taken[i] })
		m, x := newMap(t, from, to, taken...), newModel(from, to, taken)
		for range 200 {
			if r.Intn(10) == 0 {
				old := m
				m = m.Clone()
				old.Sweep(nil)
				old.TakeRun(1 + r.Intn(3))
			}
			step(t, r, m, x)
			wantLists(t, m, x.list(1), x.list(2), x.list(3))
			if n := len(m.Free()) + len(m.Taken()) + len(m.Waiting()); n != to-from {
				t.Errorf("the lists have %d blocks of %d", n, to-from)
			}
			wantIs(t, m, from-1, 0)
			wantIs(t, m, to, 0)
		}
		if t.Failed() {
			return
		}
	}
}

// P6.5: nothing that waits is taken, however much is wanted, ahead of a Sweep that does not keep it.
func TestNothingThatWaitsIsTaken(t *testing.T) {
	m := newMap(t, 0, 64, 10, 20, 30)
	deferred(t, m, 10, 20, 30)
	wantSweep(t, m, []int{20}, 2)
	for {
		i, err := m.Take()
		if err != api.OK {
			break
		}
		if i == 20 {
			t.Fatalf("20 was taken while it waits")
		}
	}
	wantLists(t, m, nil, slices.Concat(span(0, 20), span(21, 64)), []int{20})
	wantSweep(t, m, nil, 1)
	wantTake(t, m, 20, api.OK)
}
