package inode_test

import (
	"math/rand"
	"slices"
	"testing"

	"armoire/api"
	"armoire/inode"
)

// model is the document's words, of a tree of records: what each call answers, puts in and touches.
type model struct {
	inodes  map[uint32]api.Inode
	places  map[api.Place]bool // those that have a change
	most    int
	next    uint32
	puts    []api.Change
	reads   []api.Touch
	writes  []api.Touch
	failing api.Errno // of the base, which is asked for all that has no Fresh record
	made    map[uint32]bool
}

func (m *model) put(c api.Change) api.Errno {
	if !m.places[c.Place] && len(m.places) >= m.most {
		return api.ErrTooBig
	}
	m.places[c.Place] = true
	m.puts = append(m.puts, c)
	return api.OK
}

func once(l *[]api.Touch, ino uint32, kinds ...int) {
	for _, x := range of(ino, kinds...) {
		if !slices.Contains(*l, x) {
			*l = append(*l, x)
		}
	}
}

func (m *model) find(ino uint32) (api.Inode, api.Errno) {
	if ino == 0 {
		return api.Inode{}, api.ErrStale
	}
	if m.failing != api.OK && !m.made[ino] {
		return api.Inode{}, m.failing
	}
	i, is := m.inodes[ino]
	if !is {
		return api.Inode{}, api.ErrStale
	}
	return i, api.OK
}

func (m *model) make(kind, mode int) (uint32, api.Errno) {
	if kind != api.File && kind != api.Dir || mode < 0 || mode > 511 {
		return 0, api.ErrArg
	}
	m.next++
	i := api.Inode{Kind: kind, Mode: mode, Links: 1}
	if err := m.put(fresh(m.next, i)); err != api.OK {
		return 0, err
	}
	m.inodes[m.next], m.made[m.next] = i, true
	return m.next, api.OK
}

func (m *model) set(ino uint32, l []inode.Field) api.Errno {
	i, err := m.find(ino)
	if err != api.OK {
		return err
	}
	count := map[int]int{}
	for _, f := range l {
		count[f.Bit]++
		if f.Bit != 1 && f.Bit != 2 && f.Bit != 4 || count[f.Bit] > 1 {
			return api.ErrArg
		}
	}
	c, next, touches := wish(ino, i, l)
	if next.Mode < 0 || next.Mode > 511 || next.Links < 1 || next.Links > 15 || next.Size < 0 || next.Size > 512 || next.Kind == api.Dir && (next.Links != 1 || next.Size != 0) {
		return api.ErrArg
	}
	if len(l) == 0 {
		return api.OK
	}
	if err := m.put(c); err != api.OK {
		return err
	}
	m.inodes[ino] = next
	for _, x := range touches {
		once(&m.writes, ino, x.Kind)
	}
	return api.OK
}

func (m *model) remove(ino uint32) api.Errno {
	i, err := m.find(ino)
	if err != api.OK {
		return err
	}
	chunks := 0
	if i.Kind == api.File {
		once(&m.reads, ino, api.Size)
		chunks = (i.Size + 31) / 32
	}
	for n, c := range goneAll(ino, chunks) {
		if err := m.put(c); err != api.OK {
			return err
		}
		if n == 0 {
			delete(m.inodes, ino)
			m.made[ino] = true // the change says all: the base is not asked
		}
	}
	once(&m.writes, ino, api.All)
	return api.OK
}

func (m *model) link(ino uint32, by int) (int, api.Errno) {
	i, err := m.find(ino)
	if err != api.OK {
		return 0, err
	}
	if i.Kind == api.Dir {
		return 0, api.ErrIsDir
	}
	once(&m.reads, ino, api.Links)
	n := i.Links + by
	switch {
	case n < 0 || n > 15:
		return 0, api.ErrLinks
	case n == 0:
		err = m.remove(ino)
	case by != 0:
		err = m.set(ino, []inode.Field{links(n)})
	}
	if err != api.OK {
		return 0, err
	}
	return n, api.OK
}

// step does one call on both, and holds their answers against each other.
func (m *model) step(r *rig, rnd *rand.Rand) {
	ino := uint32(rnd.Intn(6))
	if rnd.Intn(2) == 0 {
		ino = 100 + uint32(rnd.Intn(6))
	}
	switch rnd.Intn(9) {
	case 0, 1:
		kind, mode := rnd.Intn(4), rnd.Intn(516)-2
		want, err := m.make(kind, mode)
		r.wantMake(kind, mode, want, err)
	case 2:
		i, err := m.find(ino)
		r.wantKind(ino, i.Kind, err)
	case 3:
		i, err := m.find(ino)
		if err == api.OK {
			once(&m.reads, ino, api.Mode, api.Links, api.Size)
		}
		r.wantStat(ino, i, err)
	case 4:
		i, err := m.find(ino)
		if err == api.OK {
			once(&m.reads, ino, api.Size)
		}
		r.wantSize(ino, i.Size, err)
	case 5, 6:
		l := anyFields(rnd)
		r.wantSet(ino, m.set(ino, l), l...)
	case 7:
		by := rnd.Intn(12) - 5
		want, err := m.link(ino, by)
		r.wantLink(ino, by, want, err)
	case 8:
		r.wantRemove(ino, m.remove(ino))
	}
}

// P17.1 to P17.6: long rows of calls, with much room and with little, with a base that fails now and then.
func TestAgainstAModel(t *testing.T) {
	rnd := rand.New(rand.NewSource(17))
	for row := range 400 {
		m := &model{inodes: map[uint32]api.Inode{}, places: map[api.Place]bool{}, most: []int{0, 1, 5, 20, 1000}[row%5], next: 99, made: map[uint32]bool{}}
		for ino := uint32(1); ino < 5; ino++ {
			m.inodes[ino] = anyInode(rnd)
		}
		r := rigOf(t, m.most, m.inodes)
		for range 60 {
			m.failing = api.OK
			if rnd.Intn(6) == 0 {
				m.failing = api.ErrDown
			}
			r.base.fault = m.failing
			m.step(r, rnd)
			if !slices.Equal(r.sight.Reads.All(), m.reads) || !slices.Equal(r.sight.Writes.All(), m.writes) || r.number != m.next {
				t.Fatalf("row %d:\nread %+v, want %+v\nwritten %+v, want %+v\nallotted up to %d, want %d", row, r.sight.Reads.All(), m.reads, r.sight.Writes.All(), m.writes, r.number, m.next)
			}
		}
		r.wantPuts(m.puts...)
		r.wantPutsBackwards()
		if t.Failed() {
			t.Fatalf("row %d", row)
		}
	}
}
