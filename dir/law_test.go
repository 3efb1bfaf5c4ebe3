package dir_test

import (
	"maps"
	"math/rand"
	"slices"
	"testing"

	"armoire/api"
	"armoire/delta"
	"armoire/dir"
	"armoire/inode"
	"armoire/reads"
	"armoire/view"
)

// The chapter's example.
func TestExample(t *testing.T) {
	r := rigOf(t, api.MaxPlaces)
	r.wantMake("/a", api.Dir, 0, 100, api.OK)
	r.wantMake("/a/f", api.File, 0, 101, api.OK)
	r.wantFind("/a/f", 101, api.OK)
	r.wantRename("/a", "/a/b", api.ErrLoop)
	r.wantRmdir("/a", api.ErrNotEmpty)
	r.wantRename("/a/f", "/g", api.OK)
	r.wantRmdir("/a", api.OK)
	r.wantList("/", api.OK, "g")
}

// call is one of the layer's, with any arguments; what it answers is told as one thing.
type call struct {
	op   int
	p, q string
	kind int
}

type answer struct {
	ino   uint32
	names string
	err   api.Errno
}

func anyCall(rnd *rand.Rand) call {
	c := call{op: rnd.Intn(10), p: anyPath(rnd), q: anyPath(rnd), kind: 1 + rnd.Intn(2)}
	if rnd.Intn(6) == 0 {
		c.q = c.p + c.q
	}
	return c
}

func (c call) do(s *inode.Sight) answer {
	switch c.op {
	case 0:
		ino, err := dir.Find(s, c.p)
		return answer{ino: ino, err: err}
	case 1:
		l, err := dir.List(s, c.p)
		all := ""
		for _, n := range l {
			all += n + "/"
		}
		return answer{names: all, err: err}
	case 2, 3, 4:
		ino, err := dir.Make(s, c.p, c.kind, 9)
		return answer{ino: ino, err: err}
	case 5, 6:
		return answer{err: dir.Link(s, c.p, c.q)}
	case 7:
		return answer{err: dir.Unlink(s, c.p)}
	case 8:
		return answer{err: dir.Rmdir(s, c.p)}
	}
	return answer{err: dir.Rename(s, c.p, c.q)}
}

// trial is a sight of a base; its numbers are allotted from one on.
func trial(b *store, from uint32) (*inode.Sight, *delta.Delta) {
	d := delta.New(1000)
	return &inode.Sight{V: view.New(b, d), Reads: reads.New(), Writes: reads.New(), Alloc: func() uint32 {
		from++
		return from
	}}, d
}

// upon is the base with what was written laid upon it, as a commit does.
func upon(t *testing.T, b *store, d *delta.Delta) *store {
	t.Helper()
	steps, err := view.Steps(b, d.All())
	if err != api.OK {
		t.Errorf("Steps: got %d", err)
	}
	next := &store{values: maps.Clone(b.values)}
	for _, s := range steps {
		if s.Gone {
			delete(next.values, s.Key)
		} else {
			next.values[s.Key] = s.Value
		}
	}
	return next
}

// grown is a base that some calls have made.
func grown(t *testing.T, rnd *rand.Rand) *store {
	t.Helper()
	b := rigOf(t, 0).base
	s, d := trial(b, 1)
	for range 60 {
		anyCall(rnd).do(s)
	}
	return upon(t, b, d)
}

// wantSound: each directory but the root has one name, so that none stands below itself; each file has as many names as its Links; nothing else is there, and no name leads to nothing.
func wantSound(t *testing.T, b *store) {
	t.Helper()
	v := view.New(b, delta.New(0))
	seen := map[uint32]int{1: 1}
	places := 0
	for work := []uint32{1}; len(work) > 0; work = work[1:] {
		in := work[0]
		for n, err := range v.Names(in) {
			x, is, errGet := v.Get(entryAt(in, n))
			if err != api.OK || errGet != api.OK || !is {
				t.Fatalf("the name %q in %d: %d, %d, %v", n, in, err, errGet, is)
			}
			i, is, _ := v.Get(recordAt(x.To))
			if seen[x.To]++; !is || i.Inode.Kind == api.Dir && seen[x.To] > 1 {
				t.Fatalf("the name %q in %d leads to %d: %+v, %v; it is its name %d", n, in, x.To, i.Inode, is, seen[x.To])
			}
			if i.Inode.Kind == api.Dir {
				work = append(work, x.To)
			}
			places++
		}
	}
	for ino, n := range seen {
		if i, _, _ := v.Get(recordAt(ino)); i.Inode.Links != n {
			t.Fatalf("%d has %d names: %+v", ino, n, i.Inode)
		}
	}
	if len(b.values) != places+len(seen) {
		t.Fatalf("%d places, want %d", len(b.values), places+len(seen))
	}
}

// P19.6: whatever is called, the tree is sound.
func TestTheTreeIsSound(t *testing.T) {
	rnd := rand.New(rand.NewSource(196))
	for range 60 {
		b := rigOf(t, 0).base
		from := uint32(1)
		for range 20 {
			s, d := trial(b, from)
			for range 1 + rnd.Intn(12) {
				anyCall(rnd).do(s)
			}
			b = upon(t, b, d)
			wantSound(t, b)
			from += 20
		}
	}
}

// P19.6: what was made is found, what was taken away is not, and what is not called by name stays.
func TestWhatWasMadeIsFound(t *testing.T) {
	rnd := rand.New(rand.NewSource(197))
	for range 300 {
		s, _ := trial(grown(t, rnd), 1000)
		for range 20 {
			c := anyCall(rnd)
			old, _ := dir.Find(s, c.p)
			stat, _, _ := s.V.Get(recordAt(old))
			got := c.do(s)
			ino, err := dir.Find(s, c.p)
			other, errOther := dir.Find(s, c.q)
			right := true
			switch {
			case got.err != api.OK:
				right = c.p == "" || ino == old
			case c.op <= 1:
				right = ino == old && err == api.OK
			case c.op <= 4:
				right = ino == got.ino && err == api.OK && old == 0
			case c.op <= 6:
				right = ino == old && other == old && err == api.OK && errOther == api.OK
			case c.op <= 8:
				_, is, _ := s.V.Get(recordAt(old))
				right = err == api.ErrNoEntry && old != 0 && is == (stat.Inode.Links > 1)
			default:
				right = err != api.OK && other == old && errOther == api.OK
			}
			if !right {
				t.Fatalf("%+v: got %+v; it was %d and is %d, %d; the other one %d, %d", c, got, old, ino, err, other, errOther)
			}
		}
	}
}

// met tells whether what the one read meets what the other one wrote.
func met(a, b *inode.Sight) bool {
	for _, x := range a.Reads.All() {
		for _, y := range b.Writes.All() {
			if reads.Meet(x, y) {
				return true
			}
		}
	}
	return false
}

// P19.6, P19.1 to P19.5: two that saw one tree, of whom the second has read nothing that the first one wrote: laid one upon the other they are as if they had been done one behind the other, each with the same answers.
func TestTwoAreOneBehindTheOther(t *testing.T) {
	rnd := rand.New(rand.NewSource(198))
	free, both := 0, 0
	for range 6000 {
		b := grown(t, rnd)
		s1, d1 := trial(b, 1000)
		for range 1 + rnd.Intn(8) {
			anyCall(rnd).do(s1)
		}
		var calls []call
		var answers []answer
		s2, d2 := trial(b, 2000)
		for range 1 + rnd.Intn(8) {
			c := anyCall(rnd)
			calls, answers = append(calls, c), append(answers, c.do(s2))
		}
		if met(s2, s1) {
			continue
		}
		free++
		if d1.Count() > 0 && d2.Count() > 0 {
			both++
		}
		first := upon(t, b, d1)
		again, d3 := trial(first, 2000)
		for n, c := range calls {
			if got := c.do(again); got != answers[n] {
				t.Fatalf("%+v: got %+v, and behind what the other one wrote %+v", c, answers[n], got)
			}
		}
		last := upon(t, first, d2)
		if !maps.Equal(last.values, upon(t, first, d3).values) {
			t.Fatal("the two make another tree than one behind the other")
		}
		wantSound(t, last)
	}
	if free < 300 || both < 100 {
		t.Errorf("only %d of them did not meet, %d of which wrote both", free, both)
	}
}

// P19.2 to P19.5: each name that leads elsewhere then is among what was written; where nothing was put in nothing was written.
func TestWhatWasChangedIsAmongWrites(t *testing.T) {
	rnd := rand.New(rand.NewSource(199))
	for range 1000 {
		b := grown(t, rnd)
		s, d := trial(b, 1000)
		for range 1 + rnd.Intn(3) {
			anyCall(rnd).do(s)
		}
		written := s.Writes.All()
		next := upon(t, b, d)
		for _, c := range d.All() {
			p := c.Place
			if p.Part == api.Entry && b.values[entryKey(p.Ino, p.Name)] != next.values[entryKey(p.Ino, p.Name)] && !slices.Contains(written, name(p.Ino, p.Name)) {
				t.Errorf("the name %q of %d is another one; written: %+v", p.Name, p.Ino, written)
			}
		}
		if (d.Mark() == 0) != (len(written) == 0) {
			t.Errorf("changes: %+v; written: %+v", d.All(), written)
		}
	}
}
