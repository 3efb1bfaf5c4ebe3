package place_test

import (
	"encoding/binary"
	"math"
	"math/rand"
	"slices"
	"strings"
	"testing"

	"armoire/api"
	"armoire/place"
)

var (
	parts      = []int{api.Record, api.Entry, api.Data}
	wrongParts = []int{math.MinInt, -1, api.NoPart, 4, 5, 255, 256 + api.Record, 256 + api.Entry, 256 + api.Data, 1<<32 + api.Entry, math.MaxInt}
	inodes     = []uint32{1, 2, 3, 255, 256, 257, 258, 65535, 65536, 1 << 24, 0x01020304, 0x80000000, math.MaxUint32 - 1, math.MaxUint32}
	names      = []string{"a", "b", "ab", "ab\x01", "aa", "a.", ".a", "..a", "...", " ", "\x01", "\x7f", "\x80", "\xff", "\xff\xff", "A", "0", "abcdefgh", "........", "\xff\xff\xff\xff\xff\xff\xff\xff", "\x01\x01\x01\x01\x01\x01\x01\x01", "\xc3\xa4", "\xc0\xaf", "-", "\\", "\n"}
	noNames    = []string{"", ".", "..", "/", "\x00", "a/", "/a", "a/b", "a\x00", "\x00a", "a\x00b", "//", "\x00\x00", "abcdefghi", "abcdefg/", "abcdefg\x00", ".........", "abcdefgh/", "abcdefgh\x00", "\xc3/", "\xff\x00", strings.Repeat("a", 255), strings.Repeat("a", 256+1), strings.Repeat("a", 5000)}
)

// isName is what the document says of a name, byte by byte.
func isName(s string) bool {
	for i := range len(s) {
		if s[i] == 0 || s[i] == '/' {
			return false
		}
	}
	return len(s) >= 1 && len(s) <= 8 && s != "." && s != ".."
}

// isPlace is what the document says of a place that may be.
func isPlace(p api.Place) bool {
	return p.Ino != 0 && (p.Part == 1 && p.Name == "" && p.Chunk == 0 ||
		p.Part == 2 && isName(p.Name) && p.Chunk == 0 ||
		p.Part == 3 && p.Name == "" && p.Chunk < 16)
}

// keyFor is what the document says of the key of a place that may be, by the library's means.
func keyFor(p api.Place) string {
	key := string(binary.BigEndian.AppendUint32(nil, p.Ino)) + string(rune(p.Part))
	switch p.Part {
	case 2:
		key += p.Name
	case 3:
		key += string(binary.BigEndian.AppendUint32(nil, p.Chunk))
	}
	return key + strings.Repeat("\x00", 14-len(key))
}

// somePlaces are places that may be: of all inodes that matter each part, with all names and chunks that matter.
func somePlaces() []api.Place {
	var l []api.Place
	for _, ino := range inodes {
		l = append(l, api.Place{Ino: ino, Part: api.Record})
		for _, name := range names {
			l = append(l, api.Place{Ino: ino, Part: api.Entry, Name: name})
		}
		for chunk := range uint32(16) {
			l = append(l, api.Place{Ino: ino, Part: api.Data, Chunk: chunk})
		}
	}
	return l
}

// anyPlaces are places of few inodes and of whatever else: most of them may not be.
func anyPlaces() []api.Place {
	var l []api.Place
	for _, ino := range []uint32{0, 1, 2, math.MaxUint32} {
		for _, part := range slices.Concat(wrongParts, parts) {
			for _, name := range []string{"", "a", "ab", "b", ".", "a\x00", "a/", "\xff", "abcdefgh", "abcdefghi"} {
				for _, chunk := range []uint32{0, 1, 15, 16, 256, math.MaxUint32} {
					l = append(l, api.Place{Ino: ino, Part: part, Name: name, Chunk: chunk})
				}
			}
		}
	}
	return l
}

// randomPlace is one of few inodes, of names of few letters: so two of them are often side by side.
func randomPlace(source *rand.Rand) api.Place {
	p := api.Place{Ino: 1 + uint32(source.Intn(3)), Part: 1 + source.Intn(3)}
	switch p.Part {
	case api.Entry:
		name := make([]byte, 1+source.Intn(8))
		for i := range name {
			name[i] = "\x01ab\xff"[source.Intn(4)]
		}
		p.Name = string(name)
	case api.Data:
		p.Chunk = uint32(source.Intn(16))
	}
	return p
}

func wantKey(t *testing.T, p api.Place, key string) {
	t.Helper()
	if err := place.Check(p); err != api.OK {
		t.Errorf("Check(%#v): got %d", p, err)
	}
	if got, err := place.Key(p); got != key || err != api.OK {
		t.Errorf("Key(%#v): got % x, %d, want % x", p, got, err, key)
	}
	if got, err := place.Read(key); got != p || err != api.OK {
		t.Errorf("Read(% x): got %#v, %d, want %#v", key, got, err, p)
	}
}

func wantNoPlace(t *testing.T, p api.Place) {
	t.Helper()
	if err := place.Check(p); err != api.ErrPlace {
		t.Errorf("Check(%#v): got %d, want ErrPlace", p, err)
	}
	if got, err := place.Key(p); got != "" || err != api.ErrPlace {
		t.Errorf("Key(%#v): got % x, %d, want nothing, ErrPlace", p, got, err)
	}
}

func wantNoKey(t *testing.T, key string) {
	t.Helper()
	if p, err := place.Read(key); p != (api.Place{}) || err != api.ErrForm {
		t.Errorf("Read(% x): got %#v, %d, want nothing, ErrForm", key, p, err)
	}
}
