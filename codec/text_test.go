package codec_test

import (
	"strings"
	"testing"

	"armoire/api"
	"armoire/codec"
)

// overwrite fills a list and the spare room behind it.
func overwrite(b []byte) {
	b = b[:cap(b)]
	for i := range b {
		b[i] = 0xee
	}
}

// textOf is a text of n bytes, with all bytes in it that there are.
func textOf(n int) string {
	b := make([]byte, n)
	for i := range b {
		b[i] = byte(i*7 + n)
	}
	return string(b)
}

// P1.2
func TestTextExamples(t *testing.T) {
	for _, x := range []struct{ s, want string }{
		{"ab", "\x02ab"},
		{"", "\x00"},
		{"\x00", "\x01\x00"},
		{"/", "\x01/"},
		{"\xff\xfe", "\x02\xff\xfe"},
		{"é", "\x02\xc3\xa9"},
	} {
		if b, err := codec.Text(x.s); string(b) != x.want || err != api.OK {
			t.Errorf("Text(%q): got % x, %d, want % x", x.s, b, err, x.want)
		}
	}
}

// P1.2: every length up to 255 bytes is taken, 256 and more are not.
func TestTextOfEveryLength(t *testing.T) {
	for n := range 256 {
		s := textOf(n)
		if b, err := codec.Text(s); string(b) != string([]byte{byte(n)})+s || err != api.OK {
			t.Errorf("Text of %d bytes: got % x, %d", n, b, err)
		}
	}
	for _, n := range []int{256, 257, 511, 512, 65535, 65536, 1 << 20} {
		if b, err := codec.Text(strings.Repeat("x", n)); len(b) != 0 || err != api.ErrLong {
			t.Errorf("Text of %d bytes: got %d bytes, %d, want ErrLong", n, len(b), err)
		}
	}
	// The limit is one of bytes: these are 128 letters, of two bytes each.
	if b, err := codec.Text(strings.Repeat("é", 128)); len(b) != 0 || err != api.ErrLong {
		t.Errorf("Text of 128 letters of two bytes: got %d bytes, %d, want ErrLong", len(b), err)
	}
}

// P1.2
func TestReadTextExamples(t *testing.T) {
	for _, x := range []struct {
		b, want string
		n       int
		err     api.Errno
	}{
		{"\x02ab", "ab", 3, api.OK},
		{"\x02abc", "ab", 3, api.OK},
		{"\x02a", "", 0, api.ErrShort},
		{"\x02", "", 0, api.ErrShort},
		{"", "", 0, api.ErrShort},
		{"\x00", "", 1, api.OK},
		{"\x00\x05", "", 1, api.OK},
		{"\x01\xff", "\xff", 2, api.OK},
		{"\xff", "", 0, api.ErrShort},
	} {
		s, n, err := codec.ReadText([]byte(x.b))
		if s != x.want || n != x.n || err != x.err {
			t.Errorf("ReadText(% x): got %q, %d, %d, want %q, %d, %d", x.b, s, n, err, x.want, x.n, x.err)
		}
	}
	if s, n, err := codec.ReadText(nil); s != "" || n != 0 || err != api.ErrShort {
		t.Errorf("ReadText(nil): got %q, %d, %d, want ErrShort", s, n, err)
	}
}

// P1.2: bytes that are just enough, and one too few.
func TestReadTextOfEveryLength(t *testing.T) {
	for n := range 256 {
		want := textOf(n)
		b := []byte(string([]byte{byte(n)}) + want)
		if s, read, err := codec.ReadText(b); s != want || read != n+1 || err != api.OK {
			t.Errorf("ReadText of %d bytes: got %q, %d, %d", n, s, read, err)
		}
		// What is missing stands in the spare room: it is not to be read.
		if s, read, err := codec.ReadText(b[:n]); s != "" || read != 0 || err != api.ErrShort {
			t.Errorf("ReadText of %d bytes, one too few: got %q, %d, %d, want ErrShort", n, s, read, err)
		}
	}
}

// P1.5: a text is read as what it was, whatever stands behind it.
func TestReadTextOfText(t *testing.T) {
	for n := range 256 {
		want := textOf(n)
		b, _ := codec.Text(want)
		for _, behind := range []string{"", "\x00", "\xff", "\x03abc", textOf(300)} {
			s, read, err := codec.ReadText([]byte(string(b) + behind))
			if s != want || read != len(b) || err != api.OK {
				t.Errorf("ReadText of Text of %d bytes and % x: got %q, %d, %d", n, behind, s, read, err)
			}
		}
	}
}

// P1.5: two texts, one behind the other, are both read.
func TestReadTextOneBehindTheOther(t *testing.T) {
	a, _ := codec.Text("first")
	b, _ := codec.Text("second")
	both := append(a, b...)
	_, read, _ := codec.ReadText(both)
	if s, n, err := codec.ReadText(both[read:]); s != "second" || n != 7 || err != api.OK {
		t.Errorf("the second text: got %q, %d, %d", s, n, err)
	}
}

// R4
func TestTextAndReadTextShareNothing(t *testing.T) {
	a, _ := codec.Text("ab")
	b, _ := codec.Text("ab")
	overwrite(a)
	if string(b) != "\x02ab" {
		t.Errorf("two answers share memory: % x", b)
	}
	s, _, _ := codec.ReadText(b)
	if string(b) != "\x02ab" {
		t.Errorf("ReadText changed its argument: % x", b)
	}
	overwrite(b)
	if s != "ab" {
		t.Errorf("ReadText's answer shares memory with its argument: %q", s)
	}
}
