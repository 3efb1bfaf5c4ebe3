package reads_test

import (
	"slices"
	"testing"

	"armoire/api"
	"armoire/reads"
)

func of(kind int, ino uint32) api.Touch { return api.Touch{Kind: kind, Ino: ino} }

func span(ino uint32, lo, hi int) api.Touch {
	return api.Touch{Kind: api.Bytes, Ino: ino, Lo: lo, Hi: hi}
}

func name(ino uint32, n string) api.Touch { return api.Touch{Kind: api.Name, Ino: ino, Name: n} }

func list(touches ...api.Touch) []api.Touch { return touches }

// each is one touch of each kind, of an inode.
func each(ino uint32) []api.Touch {
	return list(of(api.Mode, ino), of(api.Links, ino), of(api.Size, ino), span(ino, 3, 9), name(ino, "a"), of(api.Names, ino), of(api.All, ino))
}

// wrong are touches that may not be, for each reason there is.
func wrong() []api.Touch {
	l := list(
		api.Touch{}, of(api.NoTouch, 1), of(8, 1), of(9, 1), of(-1, 1), of(1<<40, 1),
		span(1, -1, 4), span(1, -1<<63, 4), span(1, 4, 4), span(1, 0, 0), span(1, 512, 512), span(1, 5, 4), span(1, 0, 513), span(1, 512, 513), span(1, 0, 1<<62), span(1, -5, -1),
		name(1, ""),
	)
	for _, t := range each(1) {
		t.Ino = 0
		l = append(l, t)
	}
	for _, t := range each(1) {
		if t.Kind != api.Name {
			l = append(l, with(t, "a", t.Lo, t.Hi))
		}
		if t.Kind != api.Bytes {
			l = append(l, with(t, t.Name, 1, 0), with(t, t.Name, 0, 1), with(t, t.Name, 3, 9), with(t, t.Name, -1, 0))
		}
	}
	return l
}

func with(t api.Touch, name string, lo, hi int) api.Touch {
	t.Name, t.Lo, t.Hi = name, lo, hi
	return t
}

func wantCheck(t *testing.T, x api.Touch, want api.Errno) {
	t.Helper()
	if got := reads.Check(x); got != want {
		t.Errorf("Check(%+v): got %d, want %d", x, got, want)
	}
}

func wantMeet(t *testing.T, read, written api.Touch, want bool) {
	t.Helper()
	if got := reads.Meet(read, written); got != want {
		t.Errorf("Meet(%+v, %+v): got %v", read, written, got)
	}
}

// made is a set to which these were added.
func made(t *testing.T, touches ...api.Touch) *reads.Set {
	t.Helper()
	s := reads.New()
	for _, x := range touches {
		wantErr(t, "Add", s.Add(x), api.OK)
	}
	return s
}

func wantErr(t *testing.T, call string, got, want api.Errno) {
	t.Helper()
	if got != want {
		t.Errorf("%s: got %d, want %d", call, got, want)
	}
}

func wantSet(t *testing.T, s *reads.Set, want ...api.Touch) {
	t.Helper()
	if got := s.All(); !slices.Equal(got, want) || s.Mark() != len(want) {
		t.Errorf("All: got %+v, Mark %d, want %+v", got, s.Mark(), want)
	}
}

func wantMeets(t *testing.T, h *reads.History, since uint64, read []api.Touch, want bool) {
	t.Helper()
	if got := h.Meets(since, read); got != want {
		t.Errorf("Meets(%d, %+v): got %v", since, read, got)
	}
}

func wantLen(t *testing.T, h *reads.History, want int) {
	t.Helper()
	if got := h.Len(); got != want {
		t.Errorf("Len: got %d, want %d", got, want)
	}
}

// The model: what the document says of touches, word by word.

func mayBe(t api.Touch) bool {
	switch {
	case t.Ino == 0:
		return false
	case t.Kind == api.Mode, t.Kind == api.Links, t.Kind == api.Size, t.Kind == api.Names, t.Kind == api.All:
		return t.Name == "" && t.Lo == 0 && t.Hi == 0
	case t.Kind == api.Bytes:
		return t.Name == "" && 0 <= t.Lo && t.Lo < t.Hi && t.Hi <= 512
	case t.Kind == api.Name:
		return t.Name != "" && t.Lo == 0 && t.Hi == 0
	}
	return false
}

func commonByte(a, b api.Touch) bool {
	for i := a.Lo; i < a.Hi; i++ {
		if b.Lo <= i && i < b.Hi {
			return true
		}
	}
	return false
}

func meet(read, written api.Touch) bool {
	if !mayBe(read) || !mayBe(written) || read.Ino != written.Ino {
		return false
	}
	both := func(kind int) bool { return read.Kind == kind && written.Kind == kind }
	return written.Kind == api.All ||
		both(api.Mode) || both(api.Links) || both(api.Size) ||
		both(api.Bytes) && commonByte(read, written) ||
		both(api.Name) && read.Name == written.Name ||
		read.Kind == api.Names && written.Kind == api.Name
}
