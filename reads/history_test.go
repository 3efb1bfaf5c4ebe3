package reads_test

import (
	"math"
	"math/rand"
	"slices"
	"testing"

	"armoire/api"
	"armoire/reads"
)

// told is a history of some versions, each of which wrote one name of the inode 1: a the first one, b the second one, and so on.
func told(t *testing.T, versions ...uint64) *reads.History {
	t.Helper()
	h := reads.NewHistory()
	for i, v := range versions {
		wantErr(t, "Add", h.Add(v, list(nth(i))), api.OK)
	}
	return h
}

func nth(i int) api.Touch { return name(1, string(rune('a'+i))) }

// P15.3: a history of nothing.
func TestNewHistoryIsEmpty(t *testing.T) {
	h := reads.NewHistory()
	wantLen(t, h, 0)
	wantMeets(t, h, 0, each(1), false)
	wantMeets(t, h, math.MaxUint64, nil, false)
	h.Forget(0)
	h.Forget(math.MaxUint64)
	wantLen(t, h, 0)
}

// P15.3: a version that is not above all that are there is refused, and changes nothing.
func TestAddOfElderVersions(t *testing.T) {
	h := told(t, 3, 7)
	for _, v := range []uint64{0, 1, 2, 3, 4, 6, 7} {
		wantErr(t, "Add", h.Add(v, list(name(1, "z"))), api.ErrArg)
		wantErr(t, "Add", h.Add(v, nil), api.ErrArg)
	}
	wantLen(t, h, 2)
	wantMeets(t, h, 0, list(name(1, "z")), false)
	wantErr(t, "Add", h.Add(8, list(name(1, "z"))), api.OK)
	wantMeets(t, h, 7, list(name(1, "z")), true)
	wantLen(t, h, 3)
}

// P15.3: the version 0, which is above none, and so met by nobody; the greatest one, behind which there is none.
func TestAddOfFirstAndLast(t *testing.T) {
	h := reads.NewHistory()
	wantErr(t, "Add", h.Add(0, list(name(1, "a"))), api.OK)
	wantErr(t, "Add", h.Add(0, list(name(1, "a"))), api.ErrArg)
	wantLen(t, h, 1)
	wantMeets(t, h, 0, list(name(1, "a")), false)
	wantErr(t, "Add", h.Add(math.MaxUint64, list(name(1, "b"))), api.OK)
	wantErr(t, "Add", h.Add(math.MaxUint64, nil), api.ErrArg)
	wantErr(t, "Add", h.Add(0, nil), api.ErrArg)
	wantMeets(t, h, math.MaxUint64-1, list(name(1, "b")), true)
	wantMeets(t, h, math.MaxUint64, list(name(1, "b")), false)
	h.Forget(0)
	wantLen(t, h, 1)
	h.Forget(math.MaxUint64)
	wantLen(t, h, 0)
}

// P15.3: a touch that may not be, alone, ahead of others, between them and behind them: nothing of that version is there.
func TestAddOfWrongTouches(t *testing.T) {
	h := told(t, 3)
	good := list(name(1, "y"), name(1, "z"))
	for _, x := range wrong() {
		for i := range len(good) + 1 {
			wantErr(t, "Add", h.Add(5, slices.Insert(slices.Clone(good), i, x)), api.ErrArg)
		}
		wantErr(t, "Add", h.Add(5, list(x)), api.ErrArg)
		wantErr(t, "Add", h.Add(2, list(x)), api.ErrArg)
	}
	wantLen(t, h, 1)
	wantMeets(t, h, 0, good, false)
	wantErr(t, "Add", h.Add(4, good), api.OK)
	wantMeets(t, h, 3, good[1:], true)
}

// P15.3: a version without any touch is there, and meets nothing.
func TestAddOfNoTouches(t *testing.T) {
	h := reads.NewHistory()
	wantErr(t, "Add", h.Add(4, nil), api.OK)
	wantErr(t, "Add", h.Add(4, list()), api.ErrArg)
	wantErr(t, "Add", h.Add(5, list()), api.OK)
	wantLen(t, h, 2)
	wantMeets(t, h, 0, each(1), false)
	h.Forget(4)
	wantLen(t, h, 1)
	wantErr(t, "Add", h.Add(4, nil), api.ErrArg)
}

// P15.3: what meets is what was written by a version above since: at it, below it, above it.
func TestMeetsSince(t *testing.T) {
	versions := []uint64{2, 5, 6, 9}
	h := told(t, versions...)
	for since := range uint64(12) {
		for i, v := range versions {
			wantMeets(t, h, since, list(nth(i)), v > since)
			wantMeets(t, h, since, list(name(2, "a"), nth(i), of(api.Mode, 1)), v > since)
		}
		wantMeets(t, h, since, list(of(api.Names, 1)), since < 9)
	}
	wantMeets(t, h, math.MaxUint64, list(of(api.Names, 1)), false)
}

// P15.3: each of what a version wrote is met, and by each of what was read.
func TestMeetsOfEachTouch(t *testing.T) {
	h := reads.NewHistory()
	written := list(name(1, "a"), span(2, 4, 8), of(api.Size, 2), of(api.All, 3), of(api.Names, 4))
	wantErr(t, "Add", h.Add(1, written), api.OK)
	for _, x := range list(name(1, "a"), of(api.Names, 1), span(2, 7, 9), of(api.Size, 2), of(api.Mode, 3), name(3, "q"), of(api.All, 3)) {
		wantMeets(t, h, 0, list(x), true)
		wantMeets(t, h, 0, list(of(api.Mode, 9), of(api.Links, 9), x), true)
		wantMeets(t, h, 0, list(x, of(api.Mode, 9)), true)
	}
	for _, x := range list(name(1, "b"), name(2, "a"), span(2, 8, 9), span(2, 0, 4), of(api.Mode, 2), of(api.Links, 2), of(api.All, 2), of(api.Names, 4), name(4, "a"), of(api.Size, 1)) {
		wantMeets(t, h, 0, list(x), false)
	}
}

// P15.3: no reads, and reads that may not be, meet nothing; beside them others do.
func TestMeetsOfNothing(t *testing.T) {
	h := reads.NewHistory()
	wantErr(t, "Add", h.Add(1, append(each(1), span(1, 0, 512))), api.OK)
	wantMeets(t, h, 0, nil, false)
	wantMeets(t, h, 0, list(), false)
	wantMeets(t, h, 0, wrong(), false)
	wantMeets(t, h, 0, append(wrong(), of(api.Mode, 1)), true)
	wantMeets(t, h, 0, append(list(of(api.Mode, 1)), wrong()...), true)
}

// P15.3: Forget of none, of some, of a version between two, of all.
func TestForget(t *testing.T) {
	versions := []uint64{2, 5, 6, 9}
	for upTo := range uint64(12) {
		h := told(t, versions...)
		h.Forget(upTo)
		left := 0
		for i, v := range versions {
			wantMeets(t, h, 0, list(nth(i)), v > upTo)
			if v > upTo {
				left++
			}
		}
		wantLen(t, h, left)
		h.Forget(upTo)
		h.Forget(0)
		wantLen(t, h, left)
	}
}

// P15.3: behind Forget of all any version may be added; behind Forget of some one above those that are left.
func TestAddBehindForget(t *testing.T) {
	h := told(t, 2, 5, 6)
	h.Forget(5)
	wantErr(t, "Add", h.Add(6, nil), api.ErrArg)
	wantErr(t, "Add", h.Add(5, nil), api.ErrArg)
	h.Forget(100)
	wantLen(t, h, 0)
	wantErr(t, "Add", h.Add(1, list(name(1, "q"))), api.OK)
	wantMeets(t, h, 0, list(name(1, "q")), true)
	wantMeets(t, h, 0, list(name(1, "a"), name(1, "b"), name(1, "c")), false)
	wantErr(t, "Add", h.Add(6, list(name(1, "r"))), api.OK)
	wantMeets(t, h, 1, list(name(1, "r")), true)
	wantLen(t, h, 2)
}

// P15.3: what was handed in is neither kept nor changed, nor the spare room behind it.
func TestHistoryKeepsNoMemory(t *testing.T) {
	room := []api.Touch{name(1, "a"), name(1, "b"), name(1, "spare")}
	h := reads.NewHistory()
	wantErr(t, "Add", h.Add(1, room[:2]), api.OK)
	wantErr(t, "Add", h.Add(2, room[:1]), api.OK)
	read := []api.Touch{name(2, "b"), name(1, "b"), name(1, "spare")}
	wantMeets(t, h, 0, read[:2], true)
	if !slices.Equal(room, list(name(1, "a"), name(1, "b"), name(1, "spare"))) || !slices.Equal(read, list(name(2, "b"), name(1, "b"), name(1, "spare"))) {
		t.Errorf("what was handed in has changed: %+v, %+v", room, read)
	}
	room[0], room[1] = name(5, "x"), api.Touch{}
	wantMeets(t, h, 0, list(name(5, "x")), false)
	wantMeets(t, h, 1, list(name(1, "a")), true)
	wantMeets(t, h, 0, list(name(1, "b")), true)
	wantMeets(t, h, 0, list(name(1, "spare")), false)
}

// P15.3: a set's touches that were added to a history stay there, whatever becomes of the set.
func TestHistoryOfASet(t *testing.T) {
	s := made(t, name(1, "a"), span(2, 0, 4))
	h, other := reads.NewHistory(), reads.NewHistory()
	wantErr(t, "Add", h.Add(1, s.All()), api.OK)
	wantErr(t, "Undo", s.Undo(0), api.OK)
	wantErr(t, "Add", s.Add(name(1, "b")), api.OK)
	wantMeets(t, h, 0, list(name(1, "a")), true)
	wantMeets(t, h, 0, list(span(2, 3, 4)), true)
	wantMeets(t, h, 0, s.All(), false)
	wantLen(t, other, 0)
}

// P15.3: any calls, against a plain list of what each version wrote.
func TestHistoryAgainstAList(t *testing.T) {
	type row struct {
		version uint64
		written []api.Touch
	}
	rnd := rand.New(rand.NewSource(153))
	for range 80 {
		h := reads.NewHistory()
		var rows []row
		for range 60 {
			at := uint64(rnd.Intn(50))
			switch rnd.Intn(6) {
			case 0:
				h.Forget(at / 3)
				rows = slices.DeleteFunc(rows, func(r row) bool { return r.version <= at/3 })
			case 1, 2:
				var l []api.Touch
				for range rnd.Intn(4) {
					l = append(l, some(rnd))
				}
				bad := slices.ContainsFunc(l, func(x api.Touch) bool { return !mayBe(x) }) || slices.ContainsFunc(rows, func(r row) bool { return r.version >= at })
				if bad {
					wantErr(t, "Add", h.Add(at, l), api.ErrArg)
				} else {
					wantErr(t, "Add", h.Add(at, l), api.OK)
					rows = append(rows, row{at, l})
				}
			default:
				var l []api.Touch
				for range rnd.Intn(3) {
					l = append(l, some(rnd))
				}
				want := slices.ContainsFunc(rows, func(r row) bool {
					return r.version > at && slices.ContainsFunc(r.written, func(w api.Touch) bool {
						return slices.ContainsFunc(l, func(x api.Touch) bool { return meet(x, w) })
					})
				})
				wantMeets(t, h, at, l, want)
			}
			wantLen(t, h, len(rows))
		}
	}
}
