package reads_test

import (
	"math"
	"math/rand"
	"strings"
	"testing"

	"armoire/api"
)

// P15.1: each kind of touch, of the least inode and of the greatest.
func TestCheckOfEachKind(t *testing.T) {
	for _, ino := range []uint32{1, 2, math.MaxUint32} {
		for _, x := range each(ino) {
			wantCheck(t, x, api.OK)
		}
	}
}

// P15.1: Bytes at the ends of what may be, a name of any bytes and of any length.
func TestCheckAtTheEdges(t *testing.T) {
	for _, x := range list(span(1, 0, 1), span(1, 0, 512), span(1, 511, 512), span(1, 4, 5), name(1, "\x00"), name(1, "/"), name(1, ".."), name(1, "abcdefgh"), name(1, strings.Repeat("n", 300))) {
		wantCheck(t, x, api.OK)
	}
}

// P15.1: what may not be: the inode 0, no kind, kinds beyond the last, bytes out of their bounds, an empty name, what is not named and not zero.
func TestCheckOfWhatMayNotBe(t *testing.T) {
	for _, x := range wrong() {
		wantCheck(t, x, api.ErrArg)
	}
}

// P15.1: Check of whatever a touch may be made of.
func TestCheckOfAll(t *testing.T) {
	for kind := -2; kind <= 10; kind++ {
		for _, ino := range []uint32{0, 1, math.MaxUint32} {
			for _, n := range []string{"", "a", "longer than 8"} {
				for _, lo := range []int{math.MinInt, -1, 0, 1, 511, 512, 513, math.MaxInt} {
					for _, hi := range []int{math.MinInt, -1, 0, 1, 2, 511, 512, 513, math.MaxInt} {
						x := api.Touch{Kind: kind, Ino: ino, Name: n, Lo: lo, Hi: hi}
						if mayBe(x) {
							wantCheck(t, x, api.OK)
						} else {
							wantCheck(t, x, api.ErrArg)
						}
					}
				}
			}
		}
	}
}

// P15.1: each kind read against each kind written, of one inode and of two. The table tells where they meet: read down, written across, in the order of each.
func TestMeetOfEachKind(t *testing.T) {
	table := []string{
		"m.....m",
		".m....m",
		"..m...m",
		"...m..m",
		"....m.m",
		"....m.m",
		"......m",
	}
	for i, read := range each(7) {
		for j, written := range each(7) {
			wantMeet(t, read, written, table[i][j] == 'm')
		}
		for _, written := range each(8) {
			wantMeet(t, read, written, false)
		}
	}
}

// P15.1: Bytes that have one byte in common, that touch at an end, one within the other.
func TestMeetOfBytes(t *testing.T) {
	for _, c := range []struct {
		lo, hi, from, to int
		want             bool
	}{
		{0, 4, 3, 9, true}, {0, 4, 4, 9, false}, {0, 4, 5, 9, false},
		{0, 512, 5, 6, true}, {0, 1, 0, 1, true}, {0, 1, 1, 2, false}, {511, 512, 0, 512, true}, {511, 512, 0, 511, false},
		{2, 6, 2, 6, true}, {2, 6, 2, 3, true}, {2, 6, 5, 6, true}, {2, 6, 3, 5, true}, {2, 6, 1, 7, true},
	} {
		wantMeet(t, span(3, c.lo, c.hi), span(3, c.from, c.to), c.want)
		wantMeet(t, span(3, c.from, c.to), span(3, c.lo, c.hi), c.want)
		wantMeet(t, span(3, c.lo, c.hi), span(4, c.from, c.to), false)
	}
}

// P15.1: all Bytes of a short file against each other.
func TestMeetOfAllBytes(t *testing.T) {
	const end = 7
	for lo := range end {
		for hi := lo + 1; hi <= end; hi++ {
			for from := range end {
				for to := from + 1; to <= end; to++ {
					read, written := span(2, lo, hi), span(2, from, to)
					wantMeet(t, read, written, commonByte(read, written))
				}
			}
		}
	}
}

// P15.1: names, of one Name and of two; all names of a directory against one and against all.
func TestMeetOfNames(t *testing.T) {
	for _, a := range []string{"a", "b", "A", "aa", "a\x00", "\x00"} {
		for _, b := range []string{"a", "b", "A", "aa", "a\x00", "\x00"} {
			wantMeet(t, name(1, a), name(1, b), a == b)
			wantMeet(t, name(1, a), name(2, b), false)
		}
		wantMeet(t, of(api.Names, 1), name(1, a), true)
		wantMeet(t, of(api.Names, 1), name(2, a), false)
		wantMeet(t, name(1, a), of(api.Names, 1), false)
	}
	wantMeet(t, of(api.Names, 1), of(api.Names, 1), false)
}

// P15.1: All written meets whatever was read of that inode; All read meets nothing else.
func TestMeetOfAll(t *testing.T) {
	for _, x := range append(each(5), span(5, 0, 512), span(5, 511, 512), name(5, "zz")) {
		wantMeet(t, x, of(api.All, 5), true)
		wantMeet(t, x, of(api.All, 6), false)
		wantMeet(t, of(api.All, 5), x, x.Kind == api.All)
	}
}

// P15.1: where one may not be, or neither, they do not meet, also not themselves.
func TestMeetOfWhatMayNotBe(t *testing.T) {
	for _, x := range wrong() {
		wantMeet(t, x, x, false)
		for _, ino := range []uint32{0, 1} {
			for _, y := range each(max(ino, 1)) {
				y.Ino = ino
				wantMeet(t, x, y, false)
				wantMeet(t, y, x, false)
			}
		}
	}
}

// some is a touch of few kinds, inodes, names and bytes, so that many meet; now and then one that may not be.
func some(rnd *rand.Rand) api.Touch {
	ino := uint32(rnd.Intn(3)) + 1
	switch n := rnd.Intn(24); {
	case n == 0:
		l := wrong()
		return l[rnd.Intn(len(l))]
	case n < 10:
		lo := rnd.Intn(12)
		return span(ino, lo, lo+1+rnd.Intn(5))
	case n < 16:
		return name(ino, string(rune('a'+rnd.Intn(4))))
	}
	return of([]int{api.Mode, api.Links, api.Size, api.Names, api.All}[rnd.Intn(5)], ino)
}

// sound is one that may be.
func sound(rnd *rand.Rand) api.Touch {
	for {
		if t := some(rnd); mayBe(t) {
			return t
		}
	}
}

// P15.1: Meet of any two, as the document's words say.
func TestMeetOfAny(t *testing.T) {
	rnd := rand.New(rand.NewSource(151))
	for range 40000 {
		a, b := some(rnd), some(rnd)
		wantMeet(t, a, b, meet(a, b))
	}
}
