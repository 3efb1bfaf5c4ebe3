package pool_test

import (
	"maps"
	"math/rand"
	"slices"
	"testing"

	"armoire/api"
	"armoire/disk"
	"armoire/page"
	"armoire/pool"
)

// model is what the document says of a pool, in the plainest form.
type model struct {
	taken, waiting, free []int // in no order
	fresh                []int
	dropped              []int // what waits since the last Settle
	nodes                map[int]api.Node
}

func without(l []int, i int) []int {
	return slices.DeleteFunc(slices.Clone(l), func(k int) bool { return k == i })
}

func rising(l []int) []int { return slices.Sorted(slices.Values(l)) }

func (m *model) write(n api.Node) (int, api.Errno) {
	if len(m.free) == 0 {
		return 0, api.ErrFull
	}
	i := slices.Min(m.free)
	m.free = without(m.free, i)
	m.taken = append(m.taken, i)
	m.fresh = append(m.fresh, i)
	m.nodes[i] = n
	return i, api.OK
}

func (m *model) drop(i int) api.Errno {
	if !slices.Contains(m.taken, i) {
		return api.ErrNone
	}
	m.taken = without(m.taken, i)
	if slices.Contains(m.fresh, i) {
		m.fresh = without(m.fresh, i)
		m.free = append(m.free, i)
		return api.OK
	}
	m.waiting = append(m.waiting, i)
	m.dropped = append(m.dropped, i)
	return api.OK
}

func (m *model) settle() { m.fresh, m.dropped = nil, nil }

func (m *model) undo() {
	for _, i := range m.fresh {
		m.taken = without(m.taken, i)
		m.free = append(m.free, i)
	}
	for _, i := range m.dropped {
		m.waiting = without(m.waiting, i)
		m.taken = append(m.taken, i)
	}
	m.settle()
}

func (m *model) sweep(keep []uint32) int {
	count := 0
	for _, i := range slices.Clone(m.waiting) {
		if slices.Contains(keep, uint32(i)) {
			continue
		}
		m.waiting = without(m.waiting, i)
		m.dropped = without(m.dropped, i)
		m.free = append(m.free, i)
		count++
	}
	return count
}

// wantModel looks at all that a pool tells.
func wantModel(t *testing.T, p *pool.Pool, m *model) {
	t.Helper()
	wantSpace(t, p, rising(m.taken), rising(m.waiting), rising(m.free))
	for _, i := range slices.Concat(m.taken, m.waiting) {
		wantRead(t, p, uint32(i), m.nodes[i])
	}
	for _, i := range m.free {
		wantReadErr(t, p, uint32(i), api.ErrNone)
	}
}

// P8.1 to P8.5: long rows of calls held against the plainest form; behind each, all that is taken or waits is read.
func TestAgainstModel(t *testing.T) {
	r := rand.New(rand.NewSource(8))
	for range 60 {
		blocks := 2 + r.Intn(16)
		from := 1 + r.Intn(blocks-1)
		d := newDisk(t, blocks)
		m := &model{nodes: map[int]api.Node{}}
		for i := from; i < blocks; i++ {
			if r.Intn(3) > 0 {
				m.free = append(m.free, i)
				continue
			}
			m.taken = append(m.taken, i)
			m.nodes[i] = numbered(1000 + i)
			b, _ := page.EncodeNode(m.nodes[i])
			d.Write(i, b)
		}
		p := mustNew(t, d, from, m.taken...)
		for k := range 200 {
			step(t, r, p, m, k, blocks)
			wantModel(t, p, m)
		}
	}
}

func step(t *testing.T, r *rand.Rand, p *pool.Pool, m *model, k, blocks int) {
	t.Helper()
	switch r.Intn(12) {
	case 0:
		p.Settle()
		m.settle()
	case 1:
		p.Undo()
		m.undo()
	case 2, 3:
		var keep []uint32
		for range r.Intn(blocks) {
			keep = append(keep, uint32(r.Intn(blocks+2)))
		}
		wantSweep(t, p, m.sweep(keep), keep...)
	case 4, 5, 6, 7:
		i := r.Intn(blocks + 2)
		wantDrop(t, p, uint32(i), m.drop(i))
	default:
		n := numbered(k)
		want, wantErr := m.write(n)
		if id, err := p.Write(n); id != uint32(want) || err != wantErr {
			t.Fatalf("Write: got %d, %d, want %d, %d", id, err, want, wantErr)
		}
	}
}

// P8.2, P8.5: with the power cut wherever: Space is as if nothing had been asked meanwhile, Read tells what stands on the disk.
func TestCutsAgainstModel(t *testing.T) {
	r := rand.New(rand.NewSource(88))
	for range 60 {
		const blocks = 12
		d := newDisk(t, blocks)
		m := &model{free: span(2, blocks), nodes: map[int]api.Node{}}
		p := mustNew(t, d, 2)
		for k := range 150 {
			if r.Intn(5) == 0 {
				d.Arm(r.Intn(3), string([]byte{byte(r.Intn(2)), byte(r.Intn(2)), byte(r.Intn(2))}))
			}
			n := numbered(k)
			before := *m
			before.nodes = maps.Clone(m.nodes)
			if r.Intn(2) == 0 && d.On() {
				want, wantErr := m.write(n)
				id, err := p.Write(n)
				switch {
				case err == api.ErrDown:
					*m = before
				case id != uint32(want) || err != wantErr:
					t.Fatalf("Write: got %d, %d, want %d, %d", id, err, want, wantErr)
				}
			} else if i := 2 + r.Intn(blocks); r.Intn(8) > 0 {
				wantDrop(t, p, uint32(i), m.drop(i))
			} else {
				wantSweep(t, p, m.sweep(nil))
			}
			wantSpace(t, p, rising(m.taken), rising(m.waiting), rising(m.free))
			wantDiskRead(t, d, p, m)
			if !d.On() && r.Intn(2) == 0 {
				d.Power()
			}
		}
	}
}

// wantDiskRead holds what Read tells of each page against what the disk does.
func wantDiskRead(t *testing.T, d *disk.Disk, p *pool.Pool, m *model) {
	t.Helper()
	for _, i := range slices.Concat(m.taken, m.waiting) {
		b, err := d.Read(i)
		if err != api.OK {
			wantReadErr(t, p, uint32(i), api.ErrDown)
			continue
		}
		if n, err := page.DecodeNode(b); err == api.OK {
			wantRead(t, p, uint32(i), n)
		} else {
			wantReadErr(t, p, uint32(i), err)
		}
	}
}
