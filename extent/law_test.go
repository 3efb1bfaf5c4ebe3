package extent_test

import (
	"math/rand"
	"slices"
	"strings"
	"testing"

	"armoire/api"
	"armoire/delta"
	"armoire/extent"
	"armoire/inode"
	"armoire/reads"
	"armoire/view"
)

// The chapter's example.
func TestExample(t *testing.T) {
	r := rigWith(t, "hi")
	r.wantReadOf(7, 0, 9, "hi", api.OK)
	r.wantWriteOf(7, 4, "x", api.OK)
	r.wantReadOf(7, 0, 9, "hi\x00\x00x", api.OK)
	r.wantTruncateOf(7, 1, api.OK)
	r.wantTruncateOf(7, 3, api.OK)
	r.wantReadOf(7, 0, 9, "h\x00\x00", api.OK)
}

// anyBytes are n bytes, some of them 0.
func anyBytes(rnd *rand.Rand, n int) string {
	b := make([]byte, n)
	for i := range b {
		b[i] = byte(rnd.Intn(5)) * 37
	}
	return string(b)
}

// settle lays what was written upon the base, as a commit does; the sight is a new one.
func (r *rig) settle() {
	r.t.Helper()
	steps, err := view.Steps(r.base, r.delta.All())
	if err != api.OK {
		r.t.Errorf("Steps: got %d", err)
	}
	for _, s := range steps {
		if s.Gone {
			delete(r.base.values, s.Key)
		} else {
			r.base.values[s.Key] = s.Value
		}
	}
	r.delta, r.changes = delta.New(api.MaxPlaces), nil
	r.sight = &inode.Sight{V: view.New(r.base, r.delta), Reads: reads.New(), Writes: reads.New()}
}

// P18.4: long rows of calls, some of them laid upon the base: what was written is read; what nobody wrote, and what was cut off, is 0.
func TestWrittenIsRead(t *testing.T) {
	rnd := rand.New(rand.NewSource(184))
	for range 60 {
		data := anyBytes(rnd, rnd.Intn(513))
		r := rigWith(t, data)
		for range 80 {
			switch rnd.Intn(7) {
			case 0, 1:
				off, n := rnd.Intn(520), rnd.Intn(65)
				r.wantReadOf(7, off, n, part(data, off, n), api.OK)
			case 2, 3, 4:
				n := rnd.Intn(65)
				off, more := rnd.Intn(513-n), anyBytes(rnd, n)
				r.wantWriteOf(7, off, more, api.OK)
				if n > 0 {
					data = behind(data, off, more)
				}
			case 5:
				to := rnd.Intn(513)
				if rnd.Intn(3) > 0 {
					to = min(512, len(data)*3/4+rnd.Intn(40))
				}
				r.wantTruncateOf(7, to, api.OK)
				data = (data + noughts(512))[:to]
			case 6:
				r.settle()
			}
			r.wantFile(data)
			if t.Failed() {
				t.FailNow()
			}
		}
	}
}

// P18.4: each byte that is cut off is 0, and stays so, whichever way the file becomes longer.
func TestWhatWasCutOffIs0(t *testing.T) {
	for _, from := range bounds(512) {
		for _, to := range bounds(from) {
			for _, settled := range []bool{false, true} {
				r := rigWith(t, textOf(from))
				r.wantTruncateOf(7, to, api.OK)
				if settled {
					r.settle()
				}
				r.wantTruncateOf(7, 511, api.OK)
				r.wantFile(textOf(from)[:min(to, 511)] + noughts(511-min(to, 511)))
				r.wantWriteOf(7, 511, "x", api.OK)
				r.wantFile(textOf(from)[:min(to, 511)] + noughts(511-min(to, 511)) + "x")
			}
		}
		if t.Failed() {
			t.FailNow()
		}
	}
}

// call is one of the layer's, with any arguments.
type call struct {
	name string
	do   func(s *inode.Sight) (string, api.Errno)
}

func anyCall(rnd *rand.Rand) call {
	off, n, to := rnd.Intn(530), rnd.Intn(66), rnd.Intn(514)
	data := anyBytes(rnd, n)
	switch rnd.Intn(5) {
	case 0, 1, 2:
		return call{"Read", func(s *inode.Sight) (string, api.Errno) { return extent.Read(s, 7, off, n) }}
	case 3:
		return call{"Write", func(s *inode.Sight) (string, api.Errno) { return "", extent.Write(s, 7, off, data) }}
	}
	return call{"Truncate", func(s *inode.Sight) (string, api.Errno) { return "", extent.Truncate(s, 7, to) }}
}

// P18.1 to P18.3: what was not read may have been otherwise: the same calls answer the same, put in the same and touch the same.
func TestWhatWasReadIsAmongReads(t *testing.T) {
	rnd := rand.New(rand.NewSource(185))
	for range 1000 {
		data := anyBytes(rnd, rnd.Intn(513))
		a := rigWith(t, data)
		var calls []call
		var answers []string
		var errs []api.Errno
		for range 1 + rnd.Intn(4) {
			c := anyCall(rnd)
			x, err := c.do(a.sight)
			calls, answers, errs = append(calls, c), append(answers, x), append(errs, err)
		}
		other := []byte(anyBytes(rnd, len(data)))
		for _, x := range a.sight.Reads.All() {
			if x.Kind == api.Bytes && x.Lo < len(data) {
				copy(other[x.Lo:min(x.Hi, len(data))], data[x.Lo:])
			}
		}
		b := rigWith(t, string(other))
		for n, c := range calls {
			if x, err := c.do(b.sight); x != answers[n] || err != errs[n] {
				t.Errorf("%s, of what differs in nothing that was read: got %q, %d and %q, %d", c.name, answers[n], errs[n], x, err)
			}
		}
		if !slices.Equal(a.delta.All(), b.delta.All()) || !slices.Equal(a.sight.Reads.All(), b.sight.Reads.All()) || !slices.Equal(a.sight.Writes.All(), b.sight.Writes.All()) {
			t.Error("two files that differ in nothing that was read are not dealt with alike")
		}
	}
}

// P18.2, P18.3: bytes that differ then are among what was written, and so is a Size that does; where nothing was written nothing was put in.
func TestWhatWasChangedIsAmongWrites(t *testing.T) {
	rnd := rand.New(rand.NewSource(186))
	for range 1000 {
		data := anyBytes(rnd, rnd.Intn(513))
		r := rigWith(t, data)
		was := r.chunksOf(7)
		for range 1 + rnd.Intn(4) {
			anyCall(rnd).do(r.sight)
		}
		written := r.sight.Writes.All()
		var in [512]bool
		for _, x := range written {
			for i := x.Lo; i < x.Hi; i++ {
				in[i] = true
			}
		}
		now := r.chunksOf(7)
		for i := range 512 {
			if was[i] != now[i] && !in[i] {
				t.Errorf("the byte %d was %d and is %d; written: %+v", i, was[i], now[i], written)
			}
		}
		if n, _ := inode.Size(r.sight, 7); n != len(data) && !slices.Contains(written, size()) {
			t.Errorf("the Size was %d and is %d; written: %+v", len(data), n, written)
		}
		if (r.delta.Count() == 0) != (len(written) == 0) {
			t.Errorf("changes: %+v; written: %+v", r.delta.All(), written)
		}
	}
}

// P18.2: two that write other bytes of one chunk, of one base, laid upon it one behind the other, in either order: both are there.
func TestTwoWriteOneChunk(t *testing.T) {
	for _, l := range [][]string{{"ab", "AB"}, {"AB", "ab"}} {
		r := rigWith(t, strings.Repeat(".", 40))
		var all [][]api.Change
		for _, data := range l {
			d := delta.New(api.MaxPlaces)
			s := &inode.Sight{V: view.New(r.base, d), Reads: reads.New(), Writes: reads.New()}
			off := 10
			if data == "AB" {
				off = 31
			}
			if err := extent.Write(s, 7, off, data); err != api.OK {
				t.Errorf("Write: got %d", err)
			}
			all = append(all, d.All())
		}
		for _, changes := range all {
			r.put(changes...)
			r.settle()
		}
		r.wantFile(strings.Repeat(".", 10) + "ab" + strings.Repeat(".", 19) + "AB" + strings.Repeat(".", 7))
	}
}
