package place_test

import (
	"math"
	"math/rand"
	"slices"
	"strings"
	"testing"

	"armoire/api"
	"armoire/place"
)

// P3.1
func TestKeyExamples(t *testing.T) {
	for _, x := range []struct {
		p   api.Place
		key string
	}{
		{api.Place{Ino: 1, Part: api.Record}, "\x00\x00\x00\x01\x01\x00\x00\x00\x00\x00\x00\x00\x00\x00"},
		{api.Place{Ino: math.MaxUint32, Part: api.Record}, "\xff\xff\xff\xff\x01\x00\x00\x00\x00\x00\x00\x00\x00\x00"},
		{api.Place{Ino: 1, Part: api.Entry, Name: "a"}, "\x00\x00\x00\x01\x02a\x00\x00\x00\x00\x00\x00\x00\x00"},
		{api.Place{Ino: 0x01020304, Part: api.Entry, Name: "abcdefgh"}, "\x01\x02\x03\x04\x02abcdefgh\x00"},
		{api.Place{Ino: 1, Part: api.Entry, Name: "..."}, "\x00\x00\x00\x01\x02...\x00\x00\x00\x00\x00\x00"},
		{api.Place{Ino: 1, Part: api.Data}, "\x00\x00\x00\x01\x03\x00\x00\x00\x00\x00\x00\x00\x00\x00"},
		{api.Place{Ino: 1, Part: api.Data, Chunk: 15}, "\x00\x00\x00\x01\x03\x00\x00\x00\x0f\x00\x00\x00\x00\x00"},
	} {
		wantKey(t, x.p, x.key)
	}
	wantNoPlace(t, api.Place{Ino: 1, Part: api.Entry, Name: ".."})
}

// P3.1, P3.4: the key is what the document's words say, and Read of it is the place.
func TestReadOfKey(t *testing.T) {
	for _, p := range somePlaces() {
		wantKey(t, p, keyFor(p))
	}
	source := rand.New(rand.NewSource(3))
	for range 5000 {
		p := randomPlace(source)
		wantKey(t, p, keyFor(p))
	}
}

// P3.1: Read refuses just what is no place's key.
func TestReadOfWrongKeys(t *testing.T) {
	zeros := strings.Repeat("\x00", 9)
	for _, key := range []string{
		"",
		zeros,
		"\x00\x00\x00\x00\x00" + zeros,
		"\x00\x00\x00\x00\x01" + zeros,
		"\x00\x00\x00\x00\x02a" + zeros[:8],
		"\x00\x00\x00\x00\x03" + zeros,
		"\x00\x00\x00\x01\x00" + zeros,
		"\x00\x00\x00\x01\x04" + zeros,
		"\x00\x00\x00\x01\xff" + zeros,
		"\x00\x00\x00\x01\x02" + zeros,
		"\x00\x00\x00\x01\x02." + zeros[:8],
		"\x00\x00\x00\x01\x02.." + zeros[:7],
		"\x00\x00\x00\x01\x02a/b" + zeros[:6],
		"\x00\x00\x00\x01\x02\x00a" + zeros[:7],
		"\x00\x00\x00\x01\x02a\x00b" + zeros[:6],
		"\x00\x00\x00\x01\x02a" + zeros[:7] + "b",
		"\x00\x00\x00\x01\x02abcdefghi",
		"\x00\x00\x00\x01\x02abcdefg\x00i",
		"\x00\x00\x00\x01\x03\x00\x00\x00\x10" + zeros[:5],
		"\x00\x00\x00\x01\x03\x00\x00\x01\x00" + zeros[:5],
		"\x00\x00\x00\x01\x03\x01\x00\x00\x00" + zeros[:5],
		"\x00\x00\x00\x01\x03\xff\xff\xff\xff" + zeros[:5],
		"\x00\x00\x00\x01\x03" + zeros[:8] + "\x01",
		"\x00\x00\x00\x01\x03\x00\x00\x00\x01\x01" + zeros[:4],
		"\x00\x00\x00\x01\x01" + zeros[:8] + "\x01",
		"\x00\x00\x00\x01\x01a" + zeros[:8],
		strings.Repeat("\xff", 14),
	} {
		wantNoKey(t, key)
	}
}

// P3.1: a key has 14 bytes, no fewer and no more, whatever these are.
func TestReadOfEveryLength(t *testing.T) {
	for _, p := range []api.Place{
		{Ino: 1, Part: api.Record},
		{Ino: 1, Part: api.Entry, Name: "a"},
		{Ino: 1, Part: api.Entry, Name: "abcdefgh"},
		{Ino: 1, Part: api.Data, Chunk: 15},
	} {
		key := keyFor(p)
		for n := range len(key) {
			wantNoKey(t, key[:n])
			wantNoKey(t, key[len(key)-n:])
		}
		for c := range 256 {
			wantNoKey(t, key+string([]byte{byte(c)}))
			wantNoKey(t, string([]byte{byte(c)})+key)
		}
		wantNoKey(t, key+key)
		wantNoKey(t, key+strings.Repeat("\x00", 5000))
	}
}

// readByWords is the place whose key this is, and whether there is one, byte by byte.
func readByWords(key string) (api.Place, bool) {
	p := api.Place{Ino: bigEndian(key[:4]), Part: int(key[4])}
	switch p.Part {
	case api.Entry:
		p.Name = strings.TrimRight(key[5:], "\x00")
	case api.Data:
		p.Chunk = bigEndian(key[5:9])
	}
	return p, isPlace(p) && keyFor(p) == key
}

func bigEndian(s string) uint32 {
	return uint32(s[0])<<24 + uint32(s[1])<<16 + uint32(s[2])<<8 + uint32(s[3])
}

func wantReadByWords(t *testing.T, key string) {
	t.Helper()
	p, is := readByWords(key)
	if !is {
		wantNoKey(t, key)
		return
	}
	wantKey(t, p, key)
}

// P3.1: whatever differs from a place's key in one byte is another place's, or no one's.
func TestReadOfKeysThatDifferInOneByte(t *testing.T) {
	for i, p := range somePlaces() {
		// Of the many inodes some will do, and the first ones of all.
		if i >= 90 && i%7 != 0 {
			continue
		}
		for at := range api.MaxKey {
			b := []byte(keyFor(p))
			for range 255 {
				b[at]++
				wantReadByWords(t, string(b))
			}
		}
	}
}

// P3.1: keys of bytes that matter, at random.
func TestReadOfRandomKeys(t *testing.T) {
	source := rand.New(rand.NewSource(4))
	some := []byte("\x00\x00\x00\x00\x01\x02\x03\x0f\x10./a\xff")
	for range 200000 {
		b := make([]byte, api.MaxKey)
		for i := range b {
			b[i] = some[source.Intn(len(some))]
		}
		b[4] = byte(source.Intn(5))
		for i := 5 + source.Intn(10); i < len(b); i++ {
			b[i] = 0
		}
		wantReadByWords(t, string(b))
	}
}

// P3.4: keys are ordered as Compare orders places.
func TestKeysAreOrderedAsPlaces(t *testing.T) {
	l := somePlaces()
	source := rand.New(rand.NewSource(5))
	for range 500 {
		l = append(l, randomPlace(source))
	}
	keys := make([]string, len(l))
	for i, p := range l {
		key, err := place.Key(p)
		if err != api.OK {
			t.Fatalf("Key(%#v): got %d", p, err)
		}
		keys[i] = key
	}
	for i := range l {
		for j := range l {
			if got := place.Compare(l[i], l[j]); got != strings.Compare(keys[i], keys[j]) {
				t.Fatalf("Compare(%#v, %#v): got %d, the keys are % x and % x", l[i], l[j], got, keys[i], keys[j])
			}
		}
	}
	slices.SortFunc(l, place.Compare)
	slices.Sort(keys)
	for i, p := range l {
		if key, _ := place.Key(p); key != keys[i] {
			t.Fatalf("the place %d is %#v, but its key is not the key %d", i, p, i)
		}
	}
}

// P3.3
func TestSpanExamples(t *testing.T) {
	zeros := strings.Repeat("\x00", 9)
	for _, x := range []struct {
		ino      uint32
		part     int
		from, to string
	}{
		{1, api.Record, "\x00\x00\x00\x01\x01", "\x00\x00\x00\x01\x02"},
		{1, api.Entry, "\x00\x00\x00\x01\x02", "\x00\x00\x00\x01\x03"},
		{1, api.Data, "\x00\x00\x00\x01\x03", "\x00\x00\x00\x01\x04"},
		{0x01020304, api.Entry, "\x01\x02\x03\x04\x02", "\x01\x02\x03\x04\x03"},
		{255, api.Data, "\x00\x00\x00\xff\x03", "\x00\x00\x00\xff\x04"},
		{math.MaxUint32, api.Record, "\xff\xff\xff\xff\x01", "\xff\xff\xff\xff\x02"},
		{math.MaxUint32, api.Data, "\xff\xff\xff\xff\x03", "\xff\xff\xff\xff\x04"},
	} {
		from, to, err := place.Span(x.ino, x.part)
		if from != x.from+zeros || to != x.to+zeros || err != api.OK {
			t.Errorf("Span(%d, %d): got % x, % x, %d", x.ino, x.part, from, to, err)
		}
	}
}

// P3.3: of all places just those of that inode and part are within.
func TestSpanHoldsItsKeysAlone(t *testing.T) {
	for _, ino := range inodes {
		for _, part := range parts {
			from, to, err := place.Span(ino, part)
			if err != api.OK {
				t.Errorf("Span(%d, %d): got %d", ino, part, err)
			}
			within := 0
			for _, p := range somePlaces() {
				key := keyFor(p)
				inside := from <= key && key < to
				if inside != (p.Ino == ino && p.Part == part) {
					t.Errorf("Span(%d, %d): % x, % x: within is %v of %#v", ino, part, from, to, inside, p)
				}
				if inside {
					within++
				}
			}
			if want := []int{1, len(names), 16}[part-1]; within != want {
				t.Errorf("Span(%d, %d): %d keys are within, want %d", ino, part, within, want)
			}
		}
	}
}

// P3.3
func TestSpanOfWrongArguments(t *testing.T) {
	refused := func(ino uint32, part int) {
		if from, to, err := place.Span(ino, part); from != "" || to != "" || err != api.ErrPlace {
			t.Errorf("Span(%d, %d): got % x, % x, %d, want nothing, ErrPlace", ino, part, from, to, err)
		}
	}
	for _, part := range slices.Concat(wrongParts, parts) {
		refused(0, part)
	}
	for _, part := range wrongParts {
		refused(1, part)
		refused(math.MaxUint32, part)
	}
}

// R5: nothing is kept from call to call.
func TestNothingIsKept(t *testing.T) {
	l := []api.Place{{Ino: 1, Part: api.Entry, Name: "abcdefgh"}, {Ino: 2, Part: api.Record}, {Ino: 3, Part: api.Data, Chunk: 7}, {Ino: 1, Part: api.Entry, Name: "a"}}
	for range 3 {
		for _, p := range l {
			wantKey(t, p, keyFor(p))
			wantNoPlace(t, api.Place{Ino: p.Ino, Part: p.Part, Name: "x", Chunk: 1})
			wantNoKey(t, keyFor(p)[1:])
		}
	}
}
