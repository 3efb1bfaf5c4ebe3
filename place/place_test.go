package place_test

import (
	"math"
	"strings"
	"testing"

	"armoire/api"
	"armoire/place"
)

// P3.1
func TestCheckName(t *testing.T) {
	for _, name := range names {
		if err := place.CheckName(name); err != api.OK {
			t.Errorf("CheckName(%q): got %d", name, err)
		}
	}
	for _, name := range noNames {
		if err := place.CheckName(name); err != api.ErrPlace {
			t.Errorf("CheckName(%q): got %d, want ErrPlace", name, err)
		}
	}
}

// P3.1: a name of each length, 0 and one past MaxName among them.
func TestCheckNameOfEveryLength(t *testing.T) {
	for n := range 300 {
		want := api.ErrPlace
		if 1 <= n && n <= api.MaxName {
			want = api.OK
		}
		if err := place.CheckName(strings.Repeat("x", n)); err != want {
			t.Errorf("CheckName of %d bytes: got %d, want %d", n, err, want)
		}
	}
}

// P3.1: each byte, at each position of a name of each length.
func TestCheckNameOfEveryByte(t *testing.T) {
	for c := range 256 {
		for n := 1; n <= api.MaxName; n++ {
			for at := range n {
				b := []byte("xxxxxxxx"[:n])
				b[at] = byte(c)
				want := api.OK
				if c == 0 || c == '/' || n == 1 && c == '.' {
					want = api.ErrPlace
				}
				if err := place.CheckName(string(b)); err != want {
					t.Errorf("CheckName(%q): got %d, want %d", b, err, want)
				}
			}
		}
	}
}

// P3.1: only one dot and two dots are no names, not whatever is made of dots or begins with them.
func TestCheckNameOfDots(t *testing.T) {
	for n := 1; n <= api.MaxName; n++ {
		want := api.OK
		if n <= 2 {
			want = api.ErrPlace
		}
		if err := place.CheckName(strings.Repeat(".", n)); err != want {
			t.Errorf("CheckName of %d dots: got %d, want %d", n, err, want)
		}
	}
	for _, name := range []string{".x", "x.", "..x", "x..", ".x.", ". ", ".\x01"} {
		if err := place.CheckName(name); err != api.OK {
			t.Errorf("CheckName(%q): got %d", name, err)
		}
	}
}

// P3.1
func TestCheckOfPlacesThatMayNotBe(t *testing.T) {
	for _, p := range []api.Place{
		{},
		{Part: api.Record},
		{Part: api.Entry, Name: "a"},
		{Part: api.Data, Chunk: 1},
		{Ino: 1},
		{Ino: 1, Name: "a"},
		{Ino: 1, Chunk: 1},
		{Ino: 1, Part: 4},
		{Ino: 1, Part: -1},
		{Ino: 1, Part: api.Record, Name: "a"},
		{Ino: 1, Part: api.Record, Name: "."},
		{Ino: 1, Part: api.Record, Chunk: 1},
		{Ino: 1, Part: api.Record, Chunk: math.MaxUint32},
		{Ino: 1, Part: api.Entry},
		{Ino: 1, Part: api.Entry, Chunk: 1},
		{Ino: 1, Part: api.Entry, Name: "a", Chunk: 1},
		{Ino: 1, Part: api.Entry, Name: "a", Chunk: math.MaxUint32},
		{Ino: 1, Part: api.Data, Name: "a"},
		{Ino: 1, Part: api.Data, Name: "a", Chunk: 1},
		{Ino: 1, Part: api.Data, Name: "\x00"},
		{Ino: 1, Part: api.Data, Chunk: 16},
		{Ino: 1, Part: api.Data, Chunk: 17},
		{Ino: 1, Part: api.Data, Chunk: 256},
		{Ino: 1, Part: api.Data, Chunk: 1 << 16},
		{Ino: 1, Part: api.Data, Chunk: 1 << 31},
		{Ino: 1, Part: api.Data, Chunk: math.MaxUint32},
	} {
		wantNoPlace(t, p)
	}
	for _, name := range noNames {
		wantNoPlace(t, api.Place{Ino: 1, Part: api.Entry, Name: name})
	}
	for _, part := range wrongParts {
		wantNoPlace(t, api.Place{Ino: 1, Part: part})
		wantNoPlace(t, api.Place{Ino: 1, Part: part, Name: "a"})
		wantNoPlace(t, api.Place{Ino: 1, Part: part, Chunk: 1})
	}
}

// P3.1: of each inode with each part, name and chunk, just those that the document's words let be.
func TestCheckOfWhateverPlace(t *testing.T) {
	may := 0
	for _, p := range anyPlaces() {
		if !isPlace(p) {
			wantNoPlace(t, p)
			continue
		}
		may++
		wantKey(t, p, keyFor(p))
	}
	if want := 3 * (1 + 5 + 3); may != want {
		t.Errorf("%d of these places may be, want %d", may, want)
	}
}

// byWords is the order of places as the document's words have it.
func byWords(a, b api.Place) int {
	switch {
	case a.Ino != b.Ino:
		return sign(a.Ino < b.Ino)
	case a.Part != b.Part:
		return sign(a.Part < b.Part)
	}
	for i := range min(len(a.Name), len(b.Name)) {
		if a.Name[i] != b.Name[i] {
			return sign(a.Name[i] < b.Name[i])
		}
	}
	switch {
	case len(a.Name) != len(b.Name):
		return sign(len(a.Name) < len(b.Name))
	case a.Chunk != b.Chunk:
		return sign(a.Chunk < b.Chunk)
	}
	return 0
}

func sign(less bool) int {
	if less {
		return -1
	}
	return 1
}

// P3.2: each field decides ahead of all behind it.
func TestCompareExamples(t *testing.T) {
	for _, x := range []struct{ less, more api.Place }{
		{api.Place{Ino: 1, Part: 9, Name: "z", Chunk: 9}, api.Place{Ino: 2}},
		{api.Place{Ino: 0, Part: math.MaxInt, Name: "z", Chunk: 9}, api.Place{Ino: 1, Part: math.MinInt}},
		{api.Place{Ino: 1}, api.Place{Ino: math.MaxUint32}},
		{api.Place{Ino: 1<<31 - 1}, api.Place{Ino: 1 << 31}},
		{api.Place{Ino: 1, Part: api.Record, Name: "z", Chunk: 9}, api.Place{Ino: 1, Part: api.Entry}},
		{api.Place{Ino: 1, Part: api.Entry, Name: "z", Chunk: 9}, api.Place{Ino: 1, Part: api.Data}},
		{api.Place{Ino: 1, Part: math.MinInt, Name: "z"}, api.Place{Ino: 1, Part: math.MaxInt}},
		{api.Place{Ino: 1, Part: -1}, api.Place{Ino: 1}},
		{api.Place{Ino: 1, Part: 256}, api.Place{Ino: 1, Part: 257}},
		{api.Place{Ino: 1, Part: 2}, api.Place{Ino: 1, Part: 257}},
		{api.Place{Ino: 1, Part: api.Entry, Name: "a", Chunk: 9}, api.Place{Ino: 1, Part: api.Entry, Name: "ab"}},
		{api.Place{Ino: 1, Part: api.Entry, Name: "ab"}, api.Place{Ino: 1, Part: api.Entry, Name: "b"}},
		{api.Place{Ino: 1, Part: api.Entry, Name: "a"}, api.Place{Ino: 1, Part: api.Entry, Name: "a\x00"}},
		{api.Place{Ino: 1, Part: api.Entry, Name: "", Chunk: 9}, api.Place{Ino: 1, Part: api.Entry, Name: "\x00"}},
		{api.Place{Ino: 1, Part: api.Entry, Name: "B"}, api.Place{Ino: 1, Part: api.Entry, Name: "a"}},
		{api.Place{Ino: 1, Part: api.Entry, Name: "z"}, api.Place{Ino: 1, Part: api.Entry, Name: "\x80"}},
		{api.Place{Ino: 1, Part: api.Entry, Name: "\xef\xbf\xbd"}, api.Place{Ino: 1, Part: api.Entry, Name: "\xff"}},
		{api.Place{Ino: 1, Part: api.Entry, Name: "abcdefghi"}, api.Place{Ino: 1, Part: api.Entry, Name: "abcdefghj"}},
		{api.Place{Ino: 1, Part: api.Entry, Name: "a", Chunk: 1}, api.Place{Ino: 1, Part: api.Entry, Name: "a", Chunk: 2}},
		{api.Place{Ino: 1, Part: api.Data, Chunk: 2}, api.Place{Ino: 1, Part: api.Data, Chunk: 10}},
		{api.Place{Ino: 1, Part: api.Data, Chunk: 16}, api.Place{Ino: 1, Part: api.Data, Chunk: math.MaxUint32}},
	} {
		if got := place.Compare(x.less, x.more); got != -1 {
			t.Errorf("Compare(%#v, %#v): got %d, want -1", x.less, x.more, got)
		}
		if got := place.Compare(x.more, x.less); got != 1 {
			t.Errorf("Compare(%#v, %#v): got %d, want 1", x.more, x.less, got)
		}
	}
}

// P3.2: any two, also such as may not be; only of the same it is 0.
func TestCompareOfAnyTwo(t *testing.T) {
	l := append(anyPlaces(), somePlaces()[:60]...)
	for _, a := range l {
		for _, b := range l {
			got := place.Compare(a, b)
			if got != byWords(a, b) || (got == 0) != (a == b) {
				t.Fatalf("Compare(%#v, %#v): got %d, want %d", a, b, got, byWords(a, b))
			}
		}
	}
}
