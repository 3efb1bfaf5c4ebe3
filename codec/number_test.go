package codec_test

import (
	"bytes"
	"encoding/binary"
	"math"
	"testing"

	"armoire/api"
	"armoire/codec"
)

var wrongWidths = []int{math.MinInt, -8, -1, 0, 9, 16, 64, math.MaxInt}

// power is 256^width, and whether a uint64 can tell it.
func power(width int) (uint64, bool) {
	if width == 8 {
		return 0, false
	}
	return 1 << (8 * width), true
}

// someNumbers are those at the edges of all widths, and some whose bytes all differ.
func someNumbers() []uint64 {
	l := []uint64{0, 1, 2, 127, 128, 0x0102030405060708, 0xf1e2d3c4b5a69788, math.MaxUint64 - 1, math.MaxUint64}
	for width := 1; width < 8; width++ {
		p, _ := power(width)
		l = append(l, p-2, p-1, p, p+1, p/2, p/256*258)
	}
	return l
}

// bigEndian is what the document says of Fixed, by the library's means.
func bigEndian(n uint64, width int) []byte {
	return binary.BigEndian.AppendUint64(nil, n)[8-width:]
}

// P1.1
func TestFixedExamples(t *testing.T) {
	for _, x := range []struct {
		n     uint64
		width int
		want  string
		err   api.Errno
	}{
		{258, 2, "\x01\x02", api.OK},
		{256, 1, "", api.ErrLong},
		{255, 1, "\xff", api.OK},
		{1, 9, "", api.ErrArg},
		{0, 1, "\x00", api.OK},
		{1, 8, "\x00\x00\x00\x00\x00\x00\x00\x01", api.OK},
		{math.MaxUint64, 8, "\xff\xff\xff\xff\xff\xff\xff\xff", api.OK},
		{math.MaxUint64, 7, "", api.ErrLong},
		{math.MaxUint32, 4, "\xff\xff\xff\xff", api.OK},
		{math.MaxUint32 + 1, 4, "", api.ErrLong},
		{math.MaxUint32 + 1, 5, "\x01\x00\x00\x00\x00", api.OK},
	} {
		b, err := codec.Fixed(x.n, x.width)
		if string(b) != x.want || err != x.err {
			t.Errorf("Fixed(%d, %d): got % x, %d, want % x, %d", x.n, x.width, b, err, x.want, x.err)
		}
	}
}

// P1.1
func TestFixedOfEveryWidth(t *testing.T) {
	for width := 1; width <= 8; width++ {
		p, bound := power(width)
		for _, n := range someNumbers() {
			b, err := codec.Fixed(n, width)
			if bound && n >= p {
				if len(b) != 0 || err != api.ErrLong {
					t.Errorf("Fixed(%d, %d): got % x, %d, want ErrLong", n, width, b, err)
				}
				continue
			}
			if !bytes.Equal(b, bigEndian(n, width)) || err != api.OK {
				t.Errorf("Fixed(%d, %d): got % x, %d", n, width, b, err)
			}
		}
	}
}

// P1.1, R2: a wrong width is told ahead of a number that is too long.
func TestFixedOfWrongWidths(t *testing.T) {
	for _, width := range wrongWidths {
		for _, n := range someNumbers() {
			if b, err := codec.Fixed(n, width); len(b) != 0 || err != api.ErrArg {
				t.Errorf("Fixed(%d, %d): got % x, %d, want ErrArg", n, width, b, err)
			}
		}
	}
}

// P1.1
func TestNumberExamples(t *testing.T) {
	for _, x := range []struct {
		b     string
		width int
		want  uint64
		err   api.Errno
	}{
		{"\x01\x02\x03", 2, 258, api.OK},
		{"\x01\x02", 2, 258, api.OK},
		{"\x01", 2, 0, api.ErrShort},
		{"", 1, 0, api.ErrShort},
		{"\xff", 1, 255, api.OK},
		{"\xff\xff\xff\xff\xff\xff\xff\xff", 8, math.MaxUint64, api.OK},
		{"\xff\xff\xff\xff\xff\xff\xff", 8, 0, api.ErrShort},
		{"\x80\x00\x00\x00\x00\x00\x00\x00\x01", 8, 1 << 63, api.OK},
		{"\x00\x00\x00\x00\x00\x00\x00\x00\x01", 9, 0, api.ErrArg},
	} {
		n, err := codec.Number([]byte(x.b), x.width)
		if n != x.want || err != x.err {
			t.Errorf("Number(% x, %d): got %d, %d, want %d, %d", x.b, x.width, n, err, x.want, x.err)
		}
	}
}

// P1.1: bytes that are just enough, and every count below.
func TestNumberOfTooFewBytes(t *testing.T) {
	all := []byte{0x91, 0x82, 0x73, 0x64, 0x55, 0x46, 0x37, 0x28}
	for width := 1; width <= 8; width++ {
		want := binary.BigEndian.Uint64(all) >> (8 * (8 - width))
		if n, err := codec.Number(all[:width], width); n != want || err != api.OK {
			t.Errorf("Number(% x, %d): got %d, %d, want %d", all[:width], width, n, err, want)
		}
		for few := range width {
			// The rest of all stands in the spare room: it is not to be read.
			if n, err := codec.Number(all[:few], width); n != 0 || err != api.ErrShort {
				t.Errorf("Number(% x, %d): got %d, %d, want ErrShort", all[:few], width, n, err)
			}
		}
	}
}

// P1.1, R2: a wrong width is told ahead of bytes that are too few.
func TestNumberOfWrongWidths(t *testing.T) {
	for _, width := range wrongWidths {
		for _, b := range [][]byte{nil, {}, {1}, bytes.Repeat([]byte{7}, 100)} {
			if n, err := codec.Number(b, width); n != 0 || err != api.ErrArg {
				t.Errorf("Number(% x, %d): got %d, %d, want ErrArg", b, width, n, err)
			}
		}
	}
}

// P1.5: a number is read as what it was, whatever stands behind it.
func TestNumberOfFixed(t *testing.T) {
	for width := 1; width <= 8; width++ {
		for _, n := range someNumbers() {
			b, err := codec.Fixed(n, width)
			if err != api.OK {
				continue
			}
			for _, behind := range []string{"", "\x00", "\xff", "\x01\x02\x03\x04\x05\x06\x07\x08\x09"} {
				got, err := codec.Number([]byte(string(b)+behind), width)
				if got != n || err != api.OK {
					t.Errorf("Number of Fixed(%d, %d) and % x: got %d, %d", n, width, behind, got, err)
				}
			}
		}
	}
}

// R4
func TestFixedAndNumberShareNothing(t *testing.T) {
	a, _ := codec.Fixed(258, 2)
	b, _ := codec.Fixed(258, 2)
	overwrite(a)
	if string(b) != "\x01\x02" {
		t.Errorf("two answers share memory: % x", b)
	}
	if c, _ := codec.Fixed(258, 2); string(c) != "\x01\x02" {
		t.Errorf("an answer hangs on what was done to another one: % x", c)
	}
	codec.Number(b, 2)
	if string(b) != "\x01\x02" {
		t.Errorf("Number changed its argument: % x", b)
	}
}
