package disk_test

import (
	"bytes"
	"slices"
	"testing"

	"armoire/api"
	"armoire/disk"
)

// model is what the document says of a disk, in the plainest form.
type model struct {
	safe, pending [][]byte // pending: nil where nothing is
	on            bool
	left          int // below 0: not armed
	mask          string
	writes        int
}

func newModel(blocks int) *model {
	m := &model{on: true, left: -1, pending: make([][]byte, blocks)}
	for range blocks {
		m.safe = append(m.safe, all(0))
	}
	return m
}

func (m *model) cut(mask string) {
	position := 0
	for i, b := range m.pending {
		if b == nil {
			continue
		}
		if position < len(mask) && mask[position]&1 == 1 {
			m.safe[i] = b
		}
		m.pending[i] = nil
		position++
	}
	m.on, m.left = false, -1
}

func (m *model) due() bool {
	if m.left != 0 {
		return false
	}
	m.cut(m.mask)
	return true
}

func (m *model) write(i int, b []byte) api.Errno {
	switch {
	case !m.on:
		return api.ErrDown
	case i < 0 || i >= len(m.safe):
		return api.ErrBlock
	case len(b) != 512:
		return api.ErrLong
	case m.due():
		return api.ErrDown
	}
	if m.left > 0 {
		m.left--
	}
	m.pending[i] = slices.Clone(b)
	m.writes++
	return api.OK
}

func (m *model) barrier() api.Errno {
	if !m.on || m.due() {
		return api.ErrDown
	}
	for i, b := range m.pending {
		if b != nil {
			m.safe[i], m.pending[i] = b, nil
		}
	}
	return api.OK
}

func (m *model) arm(n int, mask string) {
	if m.on {
		m.left, m.mask = max(n, -1), mask
	}
}

func (m *model) clone() *model {
	c := *m
	c.safe = slices.Clone(m.safe)
	c.pending = slices.Clone(m.pending)
	return &c
}

// wantSame holds all that a disk tells against the model.
func wantSame(t *testing.T, d *disk.Disk, m *model) {
	t.Helper()
	if d.On() != m.on || d.Writes() != m.writes || d.Blocks() != len(m.safe) {
		t.Fatalf("got %v, %d writes, %d blocks, want %v, %d, %d", d.On(), d.Writes(), d.Blocks(), m.on, m.writes, len(m.safe))
	}
	var pending []int
	for i := range m.safe {
		want, wantErr := m.safe[i], api.OK
		if m.pending[i] != nil {
			pending = append(pending, i)
			want = m.pending[i]
		}
		if !m.on {
			want, wantErr = nil, api.ErrDown
		}
		if b, err := d.Read(i); err != wantErr || !bytes.Equal(b, want) {
			t.Fatalf("Read(%d): got %.6x.., %d, want %.6x.., %d", i, b, err, want, wantErr)
		}
	}
	if got := d.Pending(); !slices.Equal(got, pending) {
		t.Fatalf("Pending: got %v, want %v", got, pending)
	}
}

// dice are numbers that look thrown, the same ones at each run.
type dice uint64

func (r *dice) throw(n int) int {
	*r = *r*6364136223846793005 + 1442695040888963407
	return int(uint64(*r) >> 33 % uint64(n))
}

func (r *dice) mask() string {
	b := make([]byte, r.throw(6))
	for i := range b {
		b[i] = byte(r.throw(256))
	}
	return string(b)
}

type pair struct {
	d *disk.Disk
	m *model
}

func (p pair) step(t *testing.T, r *dice) {
	t.Helper()
	switch r.throw(16) {
	case 0:
		mask := r.mask()
		p.d.Cut(mask)
		if p.m.on {
			p.m.cut(mask)
		}
	case 1, 2, 3:
		p.d.Power()
		p.m.on = true
	case 4, 5:
		n, mask := r.throw(7)-2, r.mask()
		p.d.Arm(n, mask)
		p.m.arm(n, mask)
	case 6, 7:
		if got, want := p.d.Barrier(), p.m.barrier(); got != want {
			t.Fatalf("Barrier: got %d, want %d", got, want)
		}
	default:
		i, b := r.throw(len(p.m.safe)+2)-1, all(byte(r.throw(4)))
		if r.throw(12) == 0 {
			b = b[:511]
		}
		if got, want := p.d.Write(i, b), p.m.write(i, b); got != want {
			t.Fatalf("Write(%d, %d bytes): got %d, want %d", i, len(b), got, want)
		}
	}
}

// P2.1 to P2.5: long rows of calls, on disks and their clones in turn.
func TestAgainstModel(t *testing.T) {
	for seed := range 60 {
		r := dice(seed * 7919)
		blocks := 1 + r.throw(6)
		pairs := []pair{{newDisk(t, blocks), newModel(blocks)}}
		for range 300 {
			p := pairs[r.throw(len(pairs))]
			p.step(t, &r)
			if r.throw(40) == 0 && len(pairs) < 5 {
				pairs = append(pairs, pair{p.d.Clone(), p.m.clone()})
			}
			for _, q := range pairs {
				wantSame(t, q.d, q.m)
			}
		}
	}
}
