package item_test

import (
	"math"
	"math/rand"
	"strings"
	"testing"

	"armoire/api"
	"armoire/item"
)

func chunkOf(s string) [api.Chunk]byte {
	var chunk [api.Chunk]byte
	copy(chunk[:], s)
	return chunk
}

// P4.2, P4.3: the document's examples, and the edges of each part.
func TestValues(t *testing.T) {
	for _, c := range []struct {
		part  int
		x     item.Item
		value string
	}{
		{api.Record, item.Item{Inode: api.Inode{Kind: api.File, Mode: 6, Links: 1, Size: 258}}, "\x01\x00\x06\x01\x01\x02"},
		{api.Record, item.Item{Inode: api.Inode{Kind: api.File, Links: 1}}, "\x01\x00\x00\x01\x00\x00"},
		{api.Record, item.Item{Inode: api.Inode{Kind: api.File, Mode: 511, Links: 15, Size: 512}}, "\x01\x01\xff\x0f\x02\x00"},
		{api.Record, item.Item{Inode: api.Inode{Kind: api.Dir, Links: 1}}, "\x02\x00\x00\x01\x00\x00"},
		{api.Record, item.Item{Inode: api.Inode{Kind: api.Dir, Mode: 511, Links: 1}}, "\x02\x01\xff\x01\x00\x00"},
		{api.Entry, item.Item{To: 7}, "\x00\x00\x00\x07"},
		{api.Entry, item.Item{To: 1}, "\x00\x00\x00\x01"},
		{api.Entry, item.Item{To: 0x01020304}, "\x01\x02\x03\x04"},
		{api.Entry, item.Item{To: math.MaxUint32}, "\xff\xff\xff\xff"},
		{api.Data, item.Item{}, strings.Repeat("\x00", 32)},
		{api.Data, item.Item{Bytes: chunkOf("hello")}, "hello" + strings.Repeat("\x00", 27)},
		{api.Data, item.Item{Bytes: chunkOf("0123456789abcdef0123456789abcdeF")}, "0123456789abcdef0123456789abcdeF"},
		{api.Data, item.Item{Bytes: chunkOf(strings.Repeat("\xff", 32))}, strings.Repeat("\xff", 32)},
	} {
		wantValue(t, c.part, c.x, c.value)
	}
}

// P4.2, P4.3, P4.4: Encode is what the document says, Decode of it is the item.
func TestDecodeOfEncode(t *testing.T) {
	for _, part := range parts {
		for _, x := range standing(part) {
			wantValue(t, part, x, valueFor(part, x))
		}
	}
}

// P4.2: the part is looked at first, whatever the item is.
func TestEncodeOfWrongParts(t *testing.T) {
	for _, part := range wrongParts {
		for _, x := range []item.Item{
			{},
			{Inode: api.Inode{Kind: api.File, Links: 1}},
			{Inode: api.Inode{Kind: 3, Mode: -1}},
			{To: 1},
			{Bytes: chunkOf("x")},
			{Inode: api.Inode{Kind: api.Dir, Links: 1}, To: 1, Bytes: chunkOf("x")},
		} {
			wantNoItem(t, part, x, api.ErrArg)
		}
	}
}

// P4.2: one field that is not its part's, beside what would stand there without it.
func TestEncodeOfFieldsThatAreNotThePartsOwn(t *testing.T) {
	var last [api.Chunk]byte
	last[api.Chunk-1] = 1
	file := api.Inode{Kind: api.File, Mode: 6, Links: 1, Size: 258}
	for _, chunk := range [][api.Chunk]byte{last, chunkOf("\x01"), chunkOf("\x00\x80")} {
		wantNoItem(t, api.Record, item.Item{Inode: file, Bytes: chunk}, api.ErrForm)
		wantNoItem(t, api.Entry, item.Item{To: 7, Bytes: chunk}, api.ErrForm)
	}
	for _, i := range []api.Inode{file, {Kind: 1}, {Mode: 1}, {Links: 1}, {Size: 1}, {Size: -1}, {Mode: math.MinInt}} {
		wantNoItem(t, api.Entry, item.Item{To: 7, Inode: i}, api.ErrForm)
		wantNoItem(t, api.Data, item.Item{Inode: i}, api.ErrForm)
		wantNoItem(t, api.Data, item.Item{Inode: i, Bytes: last}, api.ErrForm)
	}
	for _, to := range tos {
		wantNoItem(t, api.Record, item.Item{Inode: file, To: to}, api.ErrForm)
		wantNoItem(t, api.Data, item.Item{To: to}, api.ErrForm)
		wantNoItem(t, api.Data, item.Item{To: to, Bytes: last}, api.ErrForm)
	}
}

// P4.2: whatever is made of some of each field.
func TestEncodeOfEverything(t *testing.T) {
	for _, x := range anyItems() {
		for _, part := range parts {
			if isItem(part, x) {
				wantValue(t, part, x, valueFor(part, x))
			} else {
				wantNoItem(t, part, x, api.ErrForm)
			}
		}
	}
}

// P4.2: an inode that may not be is none in a record either.
func TestEncodeOfInodesThatMayNotBe(t *testing.T) {
	for _, i := range anyInodes() {
		if !isInode(i) {
			wantNoItem(t, api.Record, item.Item{Inode: i}, api.ErrForm)
		}
	}
}

// P4.2: nothing leads to the inode 0.
func TestEncodeOfAnEntryToNothing(t *testing.T) {
	wantNoItem(t, api.Entry, item.Item{}, api.ErrForm)
}

// P4.3: the part is looked at first, whatever the value is.
func TestDecodeOfWrongParts(t *testing.T) {
	for _, part := range wrongParts {
		for _, value := range []string{"", "x", "\x00\x00\x00\x07", "\x01\x00\x06\x01\x01\x02", strings.Repeat("\x00", 32), strings.Repeat("x", 33)} {
			wantNoValue(t, part, value, api.ErrArg)
		}
	}
}

// P4.3: values of each length, that one alone is taken which its part has.
func TestDecodeOfEveryLength(t *testing.T) {
	widths := []int{api.Record: 6, api.Entry: 4, api.Data: 32}
	value := "\x01\x00\x06\x01\x01\x02" + strings.Repeat("\x01", 300)
	for _, part := range parts {
		for n := range len(value) {
			if n != widths[part] {
				wantNoValue(t, part, value[:n], api.ErrForm)
				wantNoValue(t, part, strings.Repeat("\x00", n), api.ErrForm)
			} else if _, err := item.Decode(part, value[:n]); err != api.OK {
				t.Errorf("Decode(%d, % x): got %d", part, value[:n], err)
			}
		}
	}
}

// P4.3: a byte more than an item's value, or a byte less, at either end.
func TestDecodeOfAByteMoreOrLess(t *testing.T) {
	for _, part := range parts {
		for _, x := range standing(part) {
			value := valueFor(part, x)
			for _, wrong := range []string{value[1:], value[:len(value)-1], value + "\x00", "\x00" + value, value + value} {
				wantNoValue(t, part, wrong, api.ErrForm)
			}
		}
	}
}

// P4.3: values as wide as a part's are, which no item has.
func TestDecodeOfValuesThatNoItemHas(t *testing.T) {
	wantNoValue(t, api.Entry, "\x00\x00\x00\x00", api.ErrForm)
	for _, value := range []string{
		"\x00\x00\x00\x00\x00\x00",
		"\x00\x00\x00\x01\x00\x00", // neither kind
		"\x03\x00\x06\x01\x00\x00",
		"\xff\x00\x06\x01\x00\x00",
		"\x01\x02\x00\x01\x00\x00", // one past MaxMode
		"\x01\xff\xff\x01\x00\x00",
		"\x02\x02\x00\x01\x00\x00",
		"\x01\x00\x00\x00\x00\x00", // links
		"\x01\x00\x00\x10\x00\x00",
		"\x01\x00\x00\xff\x00\x00",
		"\x02\x00\x00\x00\x00\x00",
		"\x02\x00\x00\x02\x00\x00",
		"\x01\x00\x00\x01\x02\x01", // one past MaxSize
		"\x01\x00\x00\x01\xff\xff",
		"\x02\x00\x00\x01\x00\x01",
		"\x02\x00\x00\x01\x01\x00",
	} {
		wantNoValue(t, api.Record, value, api.ErrForm)
	}
}

// P4.3, P4.4: what Decode takes Encode writes as this value; what it does not take is no item's.
func TestEncodeOfDecode(t *testing.T) {
	source := rand.New(rand.NewSource(44))
	taken := 0
	for range 200000 {
		value := []byte{byte(source.Intn(4)), byte(source.Intn(4)), byte(source.Intn(256)), byte(source.Intn(18)), byte(source.Intn(4)), byte(source.Intn(256))}
		if source.Intn(2) == 0 {
			value[4], value[5] = 0, 0
		}
		x := item.Item{Inode: api.Inode{Kind: int(value[0]), Mode: int(value[1])<<8 | int(value[2]), Links: int(value[3]), Size: int(value[4])<<8 | int(value[5])}}
		if !isItem(api.Record, x) {
			wantNoValue(t, api.Record, string(value), api.ErrForm)
			continue
		}
		taken++
		wantValue(t, api.Record, x, string(value))
	}
	if taken == 0 {
		t.Error("no value was taken")
	}
}

// P4.3: each bit of a value tells: no two values of a part are one item's.
func TestDecodeOfEachBit(t *testing.T) {
	for _, part := range parts {
		for _, x := range standing(part) {
			value := valueFor(part, x)
			for bit := range 8 * len(value) {
				other := []byte(value)
				other[bit/8] ^= 1 << (bit % 8)
				y, err := item.Decode(part, string(other))
				if err == api.OK && y == x {
					t.Errorf("Decode(%d, % x): got the item of % x", part, other, value)
				}
			}
		}
	}
}
