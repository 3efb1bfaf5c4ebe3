package extent_test

import (
	"math/rand"
	"slices"
	"testing"

	"armoire/api"
)

// model is the document's words, of the file 7: what each call answers, puts in and touches.
type model struct {
	data   string
	most   int
	whole  map[api.Place]bool // those that have a change; whether it says all, so that the base is not asked
	down   map[int]bool       // the chunks that fail in the base
	puts   []api.Change
	reads  []api.Touch
	writes []api.Touch
}

func (m *model) put(c api.Change) api.Errno {
	whole, is := m.whole[c.Place]
	if !is && len(m.whole) >= m.most {
		return api.ErrTooBig
	}
	m.whole[c.Place] = whole || c.Gone
	m.puts = append(m.puts, c)
	return api.OK
}

func (m *model) putAll(l []api.Change) api.Errno {
	for _, c := range l {
		if err := m.put(c); err != api.OK {
			return err
		}
	}
	return api.OK
}

func once(l *[]api.Touch, x api.Touch) {
	if !slices.Contains(*l, x) {
		*l = append(*l, x)
	}
}

func (m *model) read(off, n int) (string, api.Errno) {
	if off < 0 || n < 0 || n > 64 {
		return "", api.ErrArg
	}
	once(&m.reads, size())
	data := part(m.data, off, n)
	if data == "" {
		return "", api.OK
	}
	once(&m.reads, bytes(off, off+len(data)))
	for i := range data {
		if c := (off + i) / 32; m.down[c] && !m.whole[chunk(c)] {
			return "", api.ErrDown
		}
	}
	return data, api.OK
}

func (m *model) write(off int, data string) api.Errno {
	if off < 0 || len(data) > 64 {
		return api.ErrArg
	}
	once(&m.reads, size())
	switch {
	case data == "":
		return api.OK
	case off+len(data) > 512:
		return api.ErrSize
	}
	if err := m.putAll(laidBy(off, data)); err != api.OK {
		return err
	}
	once(&m.writes, bytes(off, off+len(data)))
	if off+len(data) > len(m.data) {
		if err := m.put(sized(off + len(data))); err != api.OK {
			return err
		}
		once(&m.writes, size())
	}
	m.data = behind(m.data, off, data)
	return api.OK
}

func (m *model) truncate(to int) api.Errno {
	once(&m.reads, size())
	switch {
	case to < 0 || to > 512:
		return api.ErrSize
	case to == len(m.data):
		return api.OK
	case to < len(m.data):
		if err := m.putAll(wipedBy(len(m.data), to)); err != api.OK {
			return err
		}
		once(&m.writes, bytes(to, len(m.data)))
	}
	if err := m.put(sized(to)); err != api.OK {
		return err
	}
	once(&m.writes, size())
	m.data = (m.data + noughts(512))[:to]
	return api.OK
}

// step does one call on both, and holds their answers against each other. Behind an error of Put it is over: what stands there then the model does not know.
func (m *model) step(r *rig, rnd *rand.Rand) bool {
	off := rnd.Intn(520) - 3
	switch rnd.Intn(3) {
	case 0:
		n := rnd.Intn(68) - 2
		want, err := m.read(off, n)
		r.wantReadOf(7, off, n, want, err)
		return true
	case 1:
		data := anyBytes(rnd, rnd.Intn(66))
		err := m.write(off, data)
		r.wantWriteOf(7, off, data, err)
		return err != api.ErrTooBig
	}
	err := m.truncate(off)
	r.wantTruncateOf(7, off, err)
	return err != api.ErrTooBig
}

// P18.1 to P18.4: long rows of calls, with much room and with little, with chunks that fail now and then.
func TestAgainstAModel(t *testing.T) {
	rnd := rand.New(rand.NewSource(18))
	for row := range 600 {
		data := anyBytes(rnd, rnd.Intn(513))
		m := &model{data: data, most: []int{0, 2, 5, 12, 64}[row%5], whole: map[api.Place]bool{}, down: map[int]bool{}}
		r := rigOf(t, m.most, file(len(data)), data)
		for more := true; more && rnd.Intn(40) > 0; {
			n := rnd.Intn(16)
			m.down[n] = rnd.Intn(3) == 0
			r.base.faults[chunkKey(7, n)] = api.OK
			if m.down[n] {
				r.base.faults[chunkKey(7, n)] = api.ErrDown
			}
			more = m.step(r, rnd)
			if !slices.Equal(r.sight.Reads.All(), m.reads) || !slices.Equal(r.sight.Writes.All(), m.writes) {
				t.Fatalf("row %d:\nread %+v, want %+v\nwritten %+v, want %+v", row, r.sight.Reads.All(), m.reads, r.sight.Writes.All(), m.writes)
			}
		}
		r.wantPuts(m.puts...)
		r.wantPutsBackwards()
		if t.Failed() {
			t.Fatalf("row %d", row)
		}
	}
}
