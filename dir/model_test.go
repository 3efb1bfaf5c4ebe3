package dir_test

import (
	"maps"
	"math/rand"
	"slices"
	"strings"
	"testing"

	"armoire/api"
)

// model is the document's words, of a tree: what each call answers, puts in and touches.
type model struct {
	inodes  map[uint32]api.Inode
	entries map[uint32]map[string]uint32
	whole   map[api.Place]bool // those that have a change; whether it says all, so that the base is not asked
	most    int
	next    uint32
	failing api.Place // which fails in the base
	endless uint32    // whose names do
	puts    []api.Change
	reads   []api.Touch
	writes  []api.Touch
}

// spot is a path's place; to is 0, if there is no entry.
type spot struct {
	in   uint32
	name string
	to   uint32
}

func (m *model) put(c api.Change) api.Errno {
	whole, is := m.whole[c.Place]
	if !is && len(m.whole) >= m.most {
		return api.ErrTooBig
	}
	m.whole[c.Place] = whole || c.Gone || c.Fresh || c.To != 0
	m.puts = append(m.puts, c)
	ino := c.Place.Ino
	switch {
	case c.Place.Part == api.Data:
	case c.Place.Part == api.Entry && c.Gone:
		delete(m.entries[ino], c.Place.Name)
	case c.Place.Part == api.Entry:
		if m.entries[ino] == nil {
			m.entries[ino] = map[string]uint32{}
		}
		m.entries[ino][c.Place.Name] = c.To
	case c.Gone:
		delete(m.inodes, ino)
	case c.Fresh:
		m.inodes[ino] = c.Inode
	default:
		i := m.inodes[ino]
		i.Links = c.Inode.Links
		m.inodes[ino] = i
	}
	return api.OK
}

func (m *model) fails(p api.Place) bool { return p == m.failing && !m.whole[p] }

func once(l *[]api.Touch, x api.Touch) {
	if !slices.Contains(*l, x) {
		*l = append(*l, x)
	}
}

func (m *model) inode(ino uint32) (api.Inode, api.Errno) {
	i, is := m.inodes[ino]
	switch {
	case m.fails(recordAt(ino)):
		return api.Inode{}, api.ErrDown
	case !is:
		return api.Inode{}, api.ErrStale
	}
	return i, api.OK
}

func (m *model) lookUp(in uint32, n string) (uint32, api.Errno) {
	i, err := m.inode(in)
	switch {
	case err != api.OK:
		return 0, err
	case i.Kind != api.Dir:
		return 0, api.ErrNotDir
	}
	once(&m.reads, name(in, n))
	if m.fails(entryAt(in, n)) {
		return 0, api.ErrDown
	}
	return m.entries[in][n], api.OK
}

// split knows the paths that this test makes: the wrong ones are such as are empty somewhere.
func split(p string) ([]string, api.Errno) {
	if p == "/" {
		return nil, api.OK
	}
	l := strings.Split(p, "/")
	if p == "" || l[0] != "" || slices.Contains(l[1:], "") || len(l) > 7 {
		return nil, api.ErrPath
	}
	return l[1:], api.OK
}

func (m *model) goDown(l []string) (uint32, api.Errno) {
	at := uint32(1)
	for _, n := range l {
		to, err := m.lookUp(at, n)
		if err != api.OK {
			return 0, err
		}
		if to == 0 {
			return 0, api.ErrNoEntry
		}
		at = to
	}
	return at, api.OK
}

func (m *model) find(p string) (uint32, api.Errno) {
	l, err := split(p)
	if err != api.OK {
		return 0, err
	}
	return m.goDown(l)
}

func (m *model) place(p string) (spot, api.Errno) {
	l, err := split(p)
	if err != api.OK || len(l) == 0 {
		return spot{}, api.ErrPath
	}
	in, err := m.goDown(l[:len(l)-1])
	if err != api.OK {
		return spot{}, err
	}
	to, err := m.lookUp(in, l[len(l)-1])
	return spot{in, l[len(l)-1], to}, err
}

func (m *model) names(ino uint32) ([]string, api.Errno) {
	once(&m.reads, names(ino))
	if m.endless == ino {
		return nil, api.ErrDevice
	}
	return slices.Sorted(maps.Keys(m.entries[ino])), api.OK
}

func (m *model) entry(at spot, to uint32) api.Errno {
	c := leads(at.in, at.name, to)
	c.Gone = to == 0
	if err := m.put(c); err != api.OK {
		return err
	}
	once(&m.writes, name(at.in, at.name))
	return api.OK
}

func (m *model) remove(ino uint32) api.Errno {
	i := m.inodes[ino]
	if i.Kind == api.File {
		once(&m.reads, of(ino, api.Size))
	}
	if err := m.put(goneRecord(ino)); err != api.OK {
		return err
	}
	for n := range (i.Size + 31) / 32 {
		if err := m.put(goneChunk(ino, uint32(n))); err != api.OK {
			return err
		}
	}
	once(&m.writes, of(ino, api.All))
	return api.OK
}

// link is inode.Link by 1 or -1, of a file that was found.
func (m *model) link(ino uint32, by int) api.Errno {
	once(&m.reads, of(ino, api.Links))
	n := m.inodes[ino].Links + by
	if n > 15 {
		return api.ErrLinks
	}
	if n == 0 {
		return m.remove(ino)
	}
	if err := m.put(linked(ino, n)); err != api.OK {
		return err
	}
	once(&m.writes, of(ino, api.Links))
	return api.OK
}

func (m *model) list(p string) ([]string, api.Errno) {
	ino, err := m.find(p)
	if err != api.OK {
		return nil, err
	}
	i, err := m.inode(ino)
	switch {
	case err != api.OK:
		return nil, err
	case i.Kind == api.File:
		return nil, api.ErrNotDir
	}
	return m.names(ino)
}

func (m *model) make(p string, kind int) (uint32, api.Errno) {
	at, err := m.place(p)
	switch {
	case err != api.OK:
		return 0, err
	case at.to != 0:
		return 0, api.ErrExists
	case kind < 1 || kind > 2:
		return 0, api.ErrArg
	}
	m.next++
	if err := m.put(fresh(m.next, api.Inode{Kind: kind, Mode: 9, Links: 1})); err != api.OK {
		return 0, err
	}
	if err := m.entry(at, m.next); err != api.OK {
		return 0, err
	}
	return m.next, api.OK
}

func (m *model) linkTo(old, p string) api.Errno {
	if l, err := split(p); err != api.OK || len(l) == 0 {
		return api.ErrPath
	}
	ino, err := m.find(old)
	if err != api.OK {
		return err
	}
	i, err := m.inode(ino)
	switch {
	case err != api.OK:
		return err
	case i.Kind == api.Dir:
		return api.ErrIsDir
	}
	at, err := m.place(p)
	switch {
	case err != api.OK:
		return err
	case at.to != 0:
		return api.ErrExists
	}
	if err := m.link(ino, 1); err != api.OK {
		return err
	}
	return m.entry(at, ino)
}

func (m *model) unlink(p string) api.Errno {
	at, err := m.place(p)
	switch {
	case err != api.OK:
		return err
	case at.to == 0:
		return api.ErrNoEntry
	}
	i, err := m.inode(at.to)
	switch {
	case err != api.OK:
		return err
	case i.Kind == api.Dir:
		return api.ErrIsDir
	}
	if err := m.entry(at, 0); err != api.OK {
		return err
	}
	return m.link(at.to, -1)
}

func (m *model) rmdir(p string) api.Errno {
	at, err := m.place(p)
	switch {
	case err != api.OK:
		return err
	case at.to == 0:
		return api.ErrNoEntry
	}
	i, err := m.inode(at.to)
	switch {
	case err != api.OK:
		return err
	case i.Kind == api.File:
		return api.ErrNotDir
	}
	l, err := m.names(at.to)
	switch {
	case err != api.OK:
		return err
	case len(l) > 0:
		return api.ErrNotEmpty
	}
	if err := m.entry(at, 0); err != api.OK {
		return err
	}
	return m.remove(at.to)
}

func (m *model) rename(old, p string) api.Errno {
	a, errA := split(old)
	b, errB := split(p)
	if errA != api.OK || errB != api.OK || len(a) == 0 || len(b) == 0 {
		return api.ErrPath
	}
	from, err := m.place(old)
	switch {
	case err != api.OK:
		return err
	case from.to == 0:
		return api.ErrNoEntry
	}
	if strings.HasPrefix(p, old+"/") {
		i, err := m.inode(from.to)
		switch {
		case err != api.OK:
			return err
		case i.Kind == api.Dir:
			return api.ErrLoop
		}
	}
	to, err := m.place(p)
	switch {
	case err != api.OK:
		return err
	case to.to != 0:
		return api.ErrExists
	}
	if err := m.entry(from, 0); err != api.OK {
		return err
	}
	return m.entry(to, from.to)
}

// anyPath is one of few names, not often a wrong one.
func anyPath(rnd *rand.Rand) string {
	if rnd.Intn(30) == 0 {
		return []string{"", "/", "//", "/a/", "a", "/a//b", "/a/b/c/a/b/c/a"}[rnd.Intn(7)]
	}
	p := ""
	for range 1 + rnd.Intn(3) + rnd.Intn(2)*rnd.Intn(3) {
		p += "/" + string(rune('a'+rnd.Intn(3)))
	}
	return p
}

// step does one call on both, and holds their answers against each other.
func (m *model) step(r *rig, rnd *rand.Rand) {
	p, q := anyPath(rnd), anyPath(rnd)
	if rnd.Intn(8) == 0 {
		q = p + q
	}
	switch rnd.Intn(10) {
	case 0:
		ino, err := m.find(p)
		r.wantFind(p, ino, err)
	case 1:
		l, err := m.list(p)
		r.wantList(p, err, l...)
	case 2, 3, 4:
		kind := rnd.Intn(16)%3 + rnd.Intn(2)
		ino, err := m.make(p, kind)
		r.wantMake(p, kind, 9, ino, err)
	case 5, 6:
		r.wantLink(p, q, m.linkTo(p, q))
	case 7:
		r.wantUnlink(p, m.unlink(p))
	case 8:
		r.wantRmdir(p, m.rmdir(p))
	case 9:
		r.wantRename(p, q, m.rename(p, q))
	}
}

// fail lets one place, or the names of one inode, fail in the base, now and then.
func (m *model) fail(r *rig, rnd *rand.Rand) {
	m.failing, m.endless = api.Place{}, 0
	clear(r.base.faults)
	clear(r.base.ends)
	ino := 1 + uint32(rnd.Intn(6))
	switch rnd.Intn(20) {
	case 0:
		m.failing = recordAt(ino)
		r.base.faults[recordKey(ino)] = api.ErrDown
	case 1:
		m.failing = entryAt(ino, string(rune('a'+rnd.Intn(3))))
		r.base.faults[entryKey(ino, m.failing.Name)] = api.ErrDown
	case 2:
		m.endless = ino
		r.base.ends[ino] = end{0, api.ErrDevice}
	}
}

// of2 are a model and a rig of one tree: some of it stands in the base.
func of2(t *testing.T, most int) (*model, *rig) {
	t.Helper()
	m := &model{inodes: map[uint32]api.Inode{1: {Kind: api.Dir, Links: 1}}, entries: map[uint32]map[string]uint32{}, whole: map[api.Place]bool{}, most: most, next: 99}
	r := rigOf(t, most)
	for _, x := range []struct {
		in   uint32
		name string
		to   uint32
		i    api.Inode
	}{{1, "a", 2, directory()}, {2, "b", 3, directory()}, {3, "a", 4, file(2, 70)}, {1, "b", 4, file(2, 70)}, {2, "a", 5, file(1, 0)}, {1, "c", 6, file(14, 1)}} {
		r.has(x.in, x.name, x.to, x.i)
		m.inodes[x.to] = x.i
		if m.entries[x.in] == nil {
			m.entries[x.in] = map[string]uint32{}
		}
		m.entries[x.in][x.name] = x.to
	}
	return m, r
}

// P19.1 to P19.6: long rows of calls, with much room and with little, with a base that fails now and then.
func TestAgainstAModel(t *testing.T) {
	rnd := rand.New(rand.NewSource(19))
	for row := range 500 {
		m, r := of2(t, []int{0, 2, 7, 20, 1000}[row%5])
		for range 60 {
			m.fail(r, rnd)
			m.step(r, rnd)
			if !slices.Equal(r.sight.Reads.All(), m.reads) || !slices.Equal(r.sight.Writes.All(), m.writes) || r.number != m.next {
				t.Fatalf("row %d:\nread %+v, want %+v\nwritten %+v, want %+v\nallotted up to %d, want %d", row, r.sight.Reads.All(), m.reads, r.sight.Writes.All(), m.writes, r.number, m.next)
			}
			if t.Failed() {
				t.Fatalf("row %d", row)
			}
		}
		r.wantPuts(m.puts...)
		r.wantPutsBackwards()
		if t.Failed() {
			t.Fatalf("row %d", row)
		}
	}
}
