package reads_test

import (
	"math/rand"
	"slices"
	"testing"

	"armoire/api"
	"armoire/reads"
)

// several are some touches, of which each may be.
func several(rnd *rand.Rand, most int) []api.Touch {
	var l []api.Touch
	for range rnd.Intn(most + 1) {
		l = append(l, sound(rnd))
	}
	return l
}

func shuffled(rnd *rand.Rand, l []api.Touch) []api.Touch {
	l = slices.Clone(l)
	rnd.Shuffle(len(l), func(i, j int) { l[i], l[j] = l[j], l[i] })
	return l
}

// P15.4: whoever reads more meets more: more touches, and touches of more.
func TestMoreReadsMeetMore(t *testing.T) {
	rnd := rand.New(rand.NewSource(154))
	for range 2000 {
		h := reads.NewHistory()
		for v := range uint64(4) {
			wantErr(t, "Add", h.Add(v+1, several(rnd, 3)), api.OK)
		}
		read, since := several(rnd, 3), uint64(rnd.Intn(4))
		if !h.Meets(since, read) {
			continue
		}
		wantMeets(t, h, since, shuffled(rnd, append(slices.Clone(read), several(rnd, 3)...)), true)
		wider := slices.Clone(read)
		for i, x := range wider {
			switch x.Kind {
			case api.Name:
				wider[i] = of(api.Names, x.Ino)
			case api.Bytes:
				wider[i] = span(x.Ino, max(x.Lo-rnd.Intn(3), 0), x.Hi+rnd.Intn(3))
			}
		}
		wantMeets(t, h, since, wider, true)
		for sooner := range since {
			wantMeets(t, h, sooner, read, true)
		}
	}
}

// P15.4: what is read meets just where one of it meets.
func TestMeetsOfOneByOne(t *testing.T) {
	rnd := rand.New(rand.NewSource(155))
	for range 2000 {
		h := reads.NewHistory()
		for v := range uint64(3) {
			wantErr(t, "Add", h.Add(v+1, several(rnd, 2)), api.OK)
		}
		read := several(rnd, 4)
		any := slices.ContainsFunc(read, func(x api.Touch) bool { return h.Meets(1, list(x)) })
		wantMeets(t, h, 1, read, any)
	}
}

// P15.4: nothing meets what was written in another inode.
func TestNothingMeetsAnotherInode(t *testing.T) {
	h := reads.NewHistory()
	written := append(each(2), span(2, 0, 512), name(2, "b"))
	wantErr(t, "Add", h.Add(1, written), api.OK)
	for _, ino := range []uint32{1, 3, 1 << 31} {
		read := append(each(ino), span(ino, 0, 512), name(ino, "b"))
		wantMeets(t, h, 0, read, false)
		for _, x := range read {
			for _, w := range written {
				wantMeet(t, x, w, false)
			}
		}
	}
}

// P15.4: Meets hangs on no order, of what was read, of what a version wrote, of which version wrote it.
func TestMeetsHangsOnNoOrder(t *testing.T) {
	rnd := rand.New(rand.NewSource(156))
	for range 1500 {
		lists := [][]api.Touch{several(rnd, 3), several(rnd, 3), several(rnd, 3)}
		read := several(rnd, 3)
		a, b := reads.NewHistory(), reads.NewHistory()
		for v, l := range lists {
			wantErr(t, "Add", a.Add(uint64(v)+1, l), api.OK)
		}
		rnd.Shuffle(len(lists), func(i, j int) { lists[i], lists[j] = lists[j], lists[i] })
		for v, l := range lists {
			wantErr(t, "Add", b.Add(uint64(v)+1, shuffled(rnd, l)), api.OK)
		}
		want := a.Meets(0, read)
		wantMeets(t, b, 0, shuffled(rnd, read), want)
		wantMeets(t, b, 0, read, want)
		wantMeets(t, a, 0, append(shuffled(rnd, read), read...), want)
	}
}
