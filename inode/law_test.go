package inode_test

import (
	"math/rand"
	"slices"
	"testing"

	"armoire/api"
	"armoire/inode"
)

// call is one of the layer's, with an answer as plain numbers.
type call struct {
	name string
	do   func(s *inode.Sight, ino uint32) ([4]int, api.Errno)
}

// anyFields are some fields, most of which may be.
func anyFields(rnd *rand.Rand) []inode.Field {
	var l []inode.Field
	for range rnd.Intn(4) {
		f := inode.Field{Bit: 1 << rnd.Intn(3), N: 1 + rnd.Intn(15)}
		switch rnd.Intn(30) {
		case 0:
			f.Bit = rnd.Intn(20) - 2
		case 1:
			f.N = rnd.Intn(530) - 2
		}
		l = append(l, f)
	}
	return l
}

// anyCall is one of an inode, with any arguments.
func anyCall(rnd *rand.Rand) call {
	switch rnd.Intn(7) {
	case 0:
		return call{"Kind", func(s *inode.Sight, ino uint32) ([4]int, api.Errno) {
			kind, err := inode.Kind(s, ino)
			return [4]int{kind}, err
		}}
	case 1:
		return call{"Stat", func(s *inode.Sight, ino uint32) ([4]int, api.Errno) {
			i, err := inode.Stat(s, ino)
			return [4]int{i.Kind, i.Mode, i.Links, i.Size}, err
		}}
	case 2:
		return call{"Size", func(s *inode.Sight, ino uint32) ([4]int, api.Errno) {
			n, err := inode.Size(s, ino)
			return [4]int{n}, err
		}}
	case 3, 4:
		l := anyFields(rnd)
		return call{"Set", func(s *inode.Sight, ino uint32) ([4]int, api.Errno) {
			return [4]int{}, inode.Set(s, ino, l...)
		}}
	case 5:
		by := rnd.Intn(12) - 5
		return call{"Link", func(s *inode.Sight, ino uint32) ([4]int, api.Errno) {
			n, err := inode.Link(s, ino, by)
			return [4]int{n}, err
		}}
	}
	return call{"Remove", func(s *inode.Sight, ino uint32) ([4]int, api.Errno) {
		return [4]int{}, inode.Remove(s, ino)
	}}
}

// anyInode is one that may be.
func anyInode(rnd *rand.Rand) api.Inode {
	if rnd.Intn(4) == 0 {
		return dir(rnd.Intn(512))
	}
	return file(rnd.Intn(512), 1+rnd.Intn(15), rnd.Intn(513))
}

// P17.6: what was not read may have been otherwise: the same calls answer the same, put in the same and touch the same.
func TestWhatWasReadIsAmongReads(t *testing.T) {
	rnd := rand.New(rand.NewSource(176))
	for range 3000 {
		i := anyInode(rnd)
		var calls []call
		for range 1 + rnd.Intn(3) {
			calls = append(calls, anyCall(rnd))
		}
		a := rigWith(t, i)
		other := i
		var answers [][4]int
		var errs []api.Errno
		for _, c := range calls {
			x, err := c.do(a.sight, 7)
			answers, errs = append(answers, x), append(errs, err)
		}
		read := a.sight.Reads.All()
		if !slices.Contains(read, api.Touch{Kind: api.Mode, Ino: 7}) {
			other.Mode = rnd.Intn(512)
		}
		if i.Kind == api.File && !slices.Contains(read, api.Touch{Kind: api.Links, Ino: 7}) {
			other.Links = 1 + rnd.Intn(15)
		}
		if i.Kind == api.File && !slices.Contains(read, api.Touch{Kind: api.Size, Ino: 7}) {
			other.Size = rnd.Intn(513)
		}
		b := rigWith(t, other)
		for n, c := range calls {
			if x, err := c.do(b.sight, 7); x != answers[n] || err != errs[n] {
				t.Errorf("%s of %+v, which read %+v: got %v, %d; of %+v: %v, %d", c.name, i, read, answers[n], errs[n], other, x, err)
			}
		}
		if !slices.Equal(a.delta.All(), b.delta.All()) || !slices.Equal(read, b.sight.Reads.All()) || !slices.Equal(a.sight.Writes.All(), b.sight.Writes.All()) {
			t.Errorf("%+v and %+v, which differ in nothing that was read, are not dealt with alike", i, other)
		}
	}
}

// P17.6: what differs of a record that was there is among what was written; what is not among it is as it was.
func TestWhatWasChangedIsAmongWrites(t *testing.T) {
	rnd := rand.New(rand.NewSource(177))
	for range 3000 {
		i := anyInode(rnd)
		r := rigWith(t, i)
		for range 1 + rnd.Intn(4) {
			anyCall(rnd).do(r.sight, 7)
		}
		x, is, err := r.sight.V.Get(record(7))
		if err != api.OK {
			t.Errorf("Get: got %d", err)
		}
		written := r.sight.Writes.All()
		has := func(kind int) bool { return slices.Contains(written, api.Touch{Kind: kind, Ino: 7}) }
		if is == has(api.All) {
			t.Errorf("the record is there: %v; written: %+v", is, written)
		}
		now := x.Inode
		if is && (now.Kind != i.Kind || now.Mode != i.Mode && !has(api.Mode) || now.Links != i.Links && !has(api.Links) || now.Size != i.Size && !has(api.Size)) {
			t.Errorf("from %+v to %+v; written: %+v", i, now, written)
		}
		if (r.delta.Count() == 0) != (len(written) == 0) {
			t.Errorf("changes: %+v; written: %+v", r.delta.All(), written)
		}
		for _, w := range written {
			if w.Ino != 7 {
				t.Errorf("written: %+v", written)
			}
		}
	}
}
