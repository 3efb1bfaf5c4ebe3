package delta_test

import (
	"math"
	"math/rand"
	"slices"
	"testing"

	"armoire/api"
	"armoire/delta"
	"armoire/place"
)

// P13.4: Mark counts Puts that were done: at one place too, also such as change nothing, none that was refused.
func TestMark(t *testing.T) {
	d := delta.New(2)
	for i := range 5 {
		wantAll(t, d, i, slices.Repeat([]api.Change{size(record(2), 5)}, min(i, 1))...)
		wantPut(t, d, size(record(2), 5), api.OK)
	}
	wantPut(t, d, api.Change{}, api.ErrArg)
	wantPut(t, d, text(data(2, 0), 0, ""), api.OK)
	wantPut(t, d, text(data(2, 0), 0, ""), api.OK)
	wantPut(t, d, size(record(3), 5), api.ErrTooBig)
	wantPut(t, d, gone(record(2)), api.OK)
	wantPut(t, d, size(record(2), 5), api.ErrState)
	wantAll(t, d, 8, gone(record(2)), text(data(2, 0), 0, ""))
}

// P13.4: a mark below 0 or above Mark() changes nothing.
func TestUndoOfWrongMarks(t *testing.T) {
	d := delta.New(2)
	for _, n := range []int{0, 1, 3} {
		for range n - d.Mark() {
			wantPut(t, d, size(record(2), n), api.OK)
		}
		for _, mark := range []int{math.MinInt, -64, -2, -1, n + 1, n + 2, n + 64, 1 << 32, math.MaxInt} {
			wantUndo(t, d, mark, api.ErrArg)
			wantAll(t, d, n, slices.Repeat([]api.Change{size(record(2), n)}, min(n, 1))...)
		}
	}
}

// P13.4: Undo at 0, at Mark(), between them, twice, and with Puts behind it.
func TestUndo(t *testing.T) {
	r, e, d := record(2), entry(1, "a"), data(2, 1)
	x := delta.New(9)
	wantPut(t, x, file(r), api.OK)
	wantPut(t, x, leads(e, 2), api.OK)
	mark := x.Mark()
	wantPut(t, x, size(r, 3), api.OK)
	wantPut(t, x, text(d, 0, "abc"), api.OK)
	wantPut(t, x, gone(e), api.OK)
	wantPut(t, x, text(d, 1, "x"), api.OK)
	all := []api.Change{gone(e), fresh(r, api.File, 6, 1, 3), text(d, 0, "axc")}
	wantAll(t, x, 6, all...)
	wantUndo(t, x, 6, api.OK)
	wantAll(t, x, 6, all...)
	wantUndo(t, x, 5, api.OK)
	wantAll(t, x, 5, gone(e), fresh(r, api.File, 6, 1, 3), text(d, 0, "abc"))
	wantUndo(t, x, 6, api.ErrArg)
	wantUndo(t, x, mark, api.OK)
	wantAll(t, x, 2, leads(e, 2), file(r))
	wantNone(t, x, d)
	wantUndo(t, x, mark, api.OK)
	wantAll(t, x, 2, leads(e, 2), file(r))
	wantPut(t, x, text(d, 2, "y"), api.OK)
	wantPut(t, x, mode(r, 1), api.OK)
	wantAll(t, x, 4, leads(e, 2), fresh(r, api.File, 1, 1, 0), text(d, 2, "y"))
	wantUndo(t, x, mark, api.OK)
	wantAll(t, x, 2, leads(e, 2), file(r))
	wantUndo(t, x, 0, api.OK)
	wantAll(t, x, 0)
	wantUndo(t, x, 0, api.OK)
	wantUndo(t, x, 1, api.ErrArg)
	wantAll(t, x, 0)
}

// P13.4: many Puts of one place are undone one by one, each to what it found.
func TestUndoAtOnePlace(t *testing.T) {
	for _, l := range [][]api.Change{recordChanges(record(2)), entryChanges(entry(1, "a")), dataChanges(data(2, 1))} {
		d := delta.New(1)
		was := []api.Change{{}}
		for _, c := range l {
			if d.Put(c) == api.OK {
				now, _ := d.Get(c.Place)
				was = append(was, now)
			}
		}
		for mark := len(was) - 1; mark > 0; mark-- {
			wantUndo(t, d, mark, api.OK)
			wantAll(t, d, mark, was[mark])
		}
		wantUndo(t, d, 0, api.OK)
		wantNone(t, d, l[0].Place)
	}
}

// P13.4: what was undone takes no room: there are most again.
func TestUndoGivesRoom(t *testing.T) {
	d := delta.New(2)
	wantPut(t, d, gone(record(1)), api.OK)
	for i := range uint32(5) {
		wantPut(t, d, gone(record(2+i)), api.OK)
		wantPut(t, d, gone(record(9)), api.ErrTooBig)
		wantUndo(t, d, 1, api.OK)
		wantAll(t, d, 1, gone(record(1)))
	}
	wantUndo(t, d, 0, api.OK)
	wantPut(t, d, gone(record(8)), api.OK)
	wantPut(t, d, gone(record(9)), api.OK)
	wantPut(t, d, gone(record(1)), api.ErrTooBig)
	wantAll(t, d, 2, gone(record(8)), gone(record(9)))
}

// P13.4, P13.5: a Put that was refused is not among those that are undone.
func TestUndoOverRefusedPuts(t *testing.T) {
	d := delta.New(1)
	wantPut(t, d, fresh(record(2), api.Dir, 6, 1, 0), api.OK)
	mark := d.Mark()
	wantPut(t, d, link(record(2), 2), api.ErrArg)
	wantPut(t, d, mode(record(2), 7), api.OK)
	wantPut(t, d, gone(record(3)), api.ErrTooBig)
	wantPut(t, d, gone(record(2)), api.OK)
	wantPut(t, d, mode(record(2), 8), api.ErrState)
	wantUndo(t, d, 2, api.OK)
	wantAll(t, d, 2, fresh(record(2), api.Dir, 7, 1, 0))
	wantUndo(t, d, mark, api.OK)
	wantAll(t, d, 1, fresh(record(2), api.Dir, 6, 1, 0))
}

// model is what the document says of a delta, in the plainest form: the Puts that were done and not undone.
type model struct {
	most int
	puts []api.Change
}

// changes are those of all places, made anew from the first Put on.
func (m *model) changes() []api.Change {
	var l []api.Change
	for _, c := range m.puts {
		i := slices.IndexFunc(l, func(x api.Change) bool { return x.Place == c.Place })
		if i < 0 {
			l = append(l, c)
		} else {
			l[i], _ = joined(l[i], c)
		}
	}
	slices.SortFunc(l, func(a, b api.Change) int { return place.Compare(a.Place, b.Place) })
	return l
}

func (m *model) put(c api.Change) api.Errno {
	l := m.changes()
	i := slices.IndexFunc(l, func(x api.Change) bool { return x.Place == c.Place })
	switch {
	case !mayBe(c):
		return api.ErrArg
	case i < 0 && len(l) >= m.most:
		return api.ErrTooBig
	case i >= 0:
		if _, err := joined(l[i], c); err != api.OK {
			return err
		}
	}
	m.puts = append(m.puts, c)
	return api.OK
}

func (m *model) undo(mark int) api.Errno {
	if mark < 0 || mark > len(m.puts) {
		return api.ErrArg
	}
	m.puts = m.puts[:mark]
	return api.OK
}

// step makes one and the same call on both, and holds the answers against each other.
func step(t *testing.T, r *rand.Rand, d *delta.Delta, m *model) {
	t.Helper()
	if r.Intn(12) == 0 {
		mark := r.Intn(len(m.puts)+4) - 2
		wantUndo(t, d, mark, m.undo(mark))
		return
	}
	// Few places, so that most of them have a change.
	c := anyChange(r, somePlaces()[r.Intn(8)*3])
	if r.Intn(10) == 0 {
		also()[r.Intn(len(also()))](&c)
	}
	wantPut(t, d, c, m.put(c))
}

// P13.3 to P13.5: long rows of calls, held against the plainest form.
func TestAgainstModel(t *testing.T) {
	r := rand.New(rand.NewSource(134))
	for _, most := range []int{-1, 0, 1, 2, 3, 5, 7, 8, 64} {
		for range 10 {
			d, m := delta.New(most), &model{most: most}
			for range 150 {
				step(t, r, d, m)
				wantAll(t, d, len(m.puts), m.changes()...)
			}
			if t.Failed() {
				return
			}
		}
	}
}

// P13.5: Undo of a Mark leaves what was there, of each mark, whatever was put in behind it.
func TestUndoLeavesWhatWasThere(t *testing.T) {
	r := rand.New(rand.NewSource(135))
	for range 30 {
		d, m := delta.New(6), &model{most: 6}
		was := [][]api.Change{nil}
		for range 60 {
			c := anyChange(r, somePlaces()[r.Intn(8)*3])
			wantErr := m.put(c)
			wantPut(t, d, c, wantErr)
			if wantErr == api.OK {
				was = append(was, d.All())
			}
		}
		for mark := len(was) - 1; mark >= 0; mark -= 1 + r.Intn(9) {
			wantUndo(t, d, mark, api.OK)
			wantAll(t, d, mark, was[mark]...)
		}
	}
}
