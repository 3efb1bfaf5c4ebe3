package codec_test

import (
	"bytes"
	"encoding/binary"
	"hash/crc32"
	"math/rand"
	"testing"

	"armoire/api"
	"armoire/codec"
)

// bitByBit is the sum as the document's words have it.
func bitByBit(b []byte) uint32 {
	register := uint32(0xffffffff)
	for _, c := range b {
		register ^= uint32(c)
		for range 8 {
			if register&1 == 1 {
				register = register>>1 ^ 0x82f63b78
			} else {
				register >>= 1
			}
		}
	}
	return ^register
}

// sealOf is what the document says of Seal, by the library's means.
func sealOf(b []byte) []byte {
	return binary.LittleEndian.AppendUint32(bytes.Clone(b), crc32.Checksum(b, crc32.MakeTable(crc32.Castagnoli)))
}

// someBytes are lists of all lengths that matter, each of them noughts, ones, and mixed.
func someBytes() [][]byte {
	source := rand.New(rand.NewSource(1))
	var l [][]byte
	for _, n := range []int{0, 1, 2, 3, 4, 5, 7, 8, 9, 31, 32, 33, 255, 256, 508, 512, 4096} {
		mixed := make([]byte, n)
		source.Read(mixed)
		l = append(l, make([]byte, n), bytes.Repeat([]byte{0xff}, n), mixed)
	}
	return l
}

// P1.3
func TestSumExamples(t *testing.T) {
	for _, x := range []struct {
		s    string
		want uint32
	}{
		{"", 0},
		{"123456789", 0xe3069283},
		{"a", 0xc1d04330},
		{"\x00", 0x527d5351},
		{"\xff", 0xff000000},
		{"\xff\xff\xff\xff", 0xffffffff},
	} {
		if got := codec.Sum([]byte(x.s)); got != x.want {
			t.Errorf("Sum(%q): got %08x, want %08x", x.s, got, x.want)
		}
	}
	if got := codec.Sum(nil); got != 0 {
		t.Errorf("Sum(nil): got %08x", got)
	}
}

// P1.3: every byte, and every two side by side.
func TestSumOfEveryByte(t *testing.T) {
	for i := range 256 {
		if b := []byte{byte(i)}; codec.Sum(b) != bitByBit(b) {
			t.Errorf("Sum(% x): got %08x, want %08x", b, codec.Sum(b), bitByBit(b))
		}
		for j := range 256 {
			if b := []byte{byte(i), byte(j)}; codec.Sum(b) != bitByBit(b) {
				t.Fatalf("Sum(% x): got %08x, want %08x", b, codec.Sum(b), bitByBit(b))
			}
		}
	}
}

// P1.3
func TestSumOfMoreBytes(t *testing.T) {
	for _, b := range someBytes() {
		want := bitByBit(b)
		if library := crc32.Checksum(b, crc32.MakeTable(crc32.Castagnoli)); library != want {
			t.Fatalf("the test's own sum of %d bytes is wrong", len(b))
		}
		kept := bytes.Clone(b)
		if got := codec.Sum(b); got != want {
			t.Errorf("Sum of %d bytes: got %08x, want %08x", len(b), got, want)
		}
		if !bytes.Equal(b, kept) {
			t.Errorf("Sum changed its argument")
		}
	}
}

// P1.4
func TestSealExamples(t *testing.T) {
	for _, x := range []struct{ s, want string }{
		{"", "\x00\x00\x00\x00"},
		{"123456789", "123456789\x83\x92\x06\xe3"},
		{"a", "a\x30\x43\xd0\xc1"},
	} {
		if got := codec.Seal([]byte(x.s)); string(got) != x.want {
			t.Errorf("Seal(%q): got % x, want % x", x.s, got, x.want)
		}
	}
	if got := codec.Seal(nil); string(got) != "\x00\x00\x00\x00" {
		t.Errorf("Seal(nil): got % x", got)
	}
}

// P1.4, P1.5
func TestUnsealOfSeal(t *testing.T) {
	for _, b := range someBytes() {
		sealed := codec.Seal(b)
		if !bytes.Equal(sealed, sealOf(b)) {
			t.Errorf("Seal of %d bytes: got % x", len(b), sealed)
		}
		if got, err := codec.Unseal(sealed); !bytes.Equal(got, b) || err != api.OK {
			t.Errorf("Unseal of Seal of %d bytes: got %d bytes, %d", len(b), len(got), err)
		}
	}
}

// P1.4: what was sealed twice is unsealed twice.
func TestSealTwice(t *testing.T) {
	once := codec.Seal([]byte("abc"))
	if got, err := codec.Unseal(codec.Seal(once)); !bytes.Equal(got, once) || err != api.OK {
		t.Errorf("Unseal of what was sealed twice: got % x, %d", got, err)
	}
}

// P1.4: three bytes are too few, four just enough.
func TestUnsealOfFewBytes(t *testing.T) {
	for _, b := range [][]byte{nil, {}, {0}, {0, 0}, {0, 0, 0}, {1, 2, 3}, {0xff, 0xff, 0xff}} {
		if got, err := codec.Unseal(b); len(got) != 0 || err != api.ErrShort {
			t.Errorf("Unseal(% x): got % x, %d, want ErrShort", b, got, err)
		}
	}
	if got, err := codec.Unseal([]byte{0, 0, 0, 0}); len(got) != 0 || err != api.OK {
		t.Errorf("Unseal of four bytes 0: got % x, %d", got, err)
	}
	for i := range 4 {
		b := make([]byte, 4)
		b[i] = 1
		if got, err := codec.Unseal(b); len(got) != 0 || err != api.ErrSum {
			t.Errorf("Unseal(% x): got % x, %d, want ErrSum", b, got, err)
		}
	}
}

// P1.4: the sum with its highest byte first is no seal.
func TestUnsealOfTheSumTurnedRound(t *testing.T) {
	b := []byte("123456789\xe3\x06\x92\x83")
	if got, err := codec.Unseal(b); len(got) != 0 || err != api.ErrSum {
		t.Errorf("Unseal(% x): got % x, %d, want ErrSum", b, got, err)
	}
}

// P1.4: what was sealed and then cut, at its end or at its beginning, and what was made longer.
func TestUnsealOfWhatWasCut(t *testing.T) {
	sealed := codec.Seal([]byte("the quick brown fox"))
	for n := range sealed {
		want := api.ErrSum
		if n < 4 {
			want = api.ErrShort
		}
		if got, err := codec.Unseal(sealed[:n]); len(got) != 0 || err != want {
			t.Errorf("Unseal of the first %d bytes: got % x, %d, want %d", n, got, err, want)
		}
		if got, err := codec.Unseal(sealed[len(sealed)-n:]); len(got) != 0 || err != want {
			t.Errorf("Unseal of the last %d bytes: got % x, %d, want %d", n, got, err, want)
		}
	}
	for i := range 256 {
		if got, err := codec.Unseal(append(bytes.Clone(sealed), byte(i))); len(got) != 0 || err != api.ErrSum {
			t.Errorf("Unseal with a byte %d more: got % x, %d, want ErrSum", i, got, err)
		}
	}
}

// turned is b with the bits of pattern turned, from the bit number at on; the bits of a byte are counted from the lowest one on.
func turned(b []byte, at int, pattern uint32) []byte {
	b = bytes.Clone(b)
	for i := range 32 {
		if pattern>>i&1 == 1 {
			b[(at+i)/8] ^= 1 << ((at + i) % 8)
		}
	}
	return b
}

// patterns are changes of just so many bits side by side: the first and the last one, and some of those between.
func patterns(wide int, source *rand.Rand) []uint32 {
	ends := uint32(1) | 1<<(wide-1)
	inner := (uint32(1)<<(wide-1) - 1) &^ 1
	l := []uint32{ends, ends | inner}
	if wide <= 6 {
		for i := range uint32(1) << wide {
			l = append(l, ends|i)
		}
		return l
	}
	for range 20 {
		l = append(l, ends|source.Uint32()&inner)
	}
	return l
}

// P1.5: no change within 32 bits side by side stays unseen, wherever it is: within the bytes, across their end, within the sum.
func TestUnsealOfWhatWasChanged(t *testing.T) {
	source := rand.New(rand.NewSource(2))
	for _, s := range []string{"", "a", "\x00\x00\x00\x00\x00", "123456789", "\xff\xff\xff\xff\xff\xff\xff\xff\xff\xff\xff\xff"} {
		sealed := codec.Seal([]byte(s))
		for wide := 1; wide <= 32; wide++ {
			for at := 0; at+wide <= 8*len(sealed); at++ {
				for _, p := range patterns(wide, source) {
					b := turned(sealed, at, p)
					if got, err := codec.Unseal(b); len(got) != 0 || err != api.ErrSum {
						t.Fatalf("%q, sealed, with the bits %b turned from %d on: got % x, %d, want ErrSum", s, p, at, got, err)
					}
				}
			}
		}
	}
}

// P1.5: each bit of a whole block.
func TestUnsealOfAChangedBlock(t *testing.T) {
	sealed := codec.Seal(bytes.Repeat([]byte{0x5a}, api.Block-4))
	for at := range 8 * len(sealed) {
		if _, err := codec.Unseal(turned(sealed, at, 1)); err != api.ErrSum {
			t.Errorf("a block whose bit %d is turned: got %d, want ErrSum", at, err)
		}
	}
}

// R4: the spare room behind what is handed in stays as it is.
func TestSealSharesNothing(t *testing.T) {
	room := []byte("abcdefgh")
	sealed := codec.Seal(room[:3])
	if string(room) != "abcdefgh" {
		t.Errorf("Seal changed what it was handed: %q", room)
	}
	overwrite(sealed)
	if string(room) != "abcdefgh" {
		t.Errorf("Seal's answer shares memory with its argument: %q", room)
	}
	if again := codec.Seal(room[:3]); !bytes.Equal(again, sealOf([]byte("abc"))) {
		t.Errorf("Seal hangs on what was done to an answer: % x", again)
	}
}

// R4
func TestUnsealSharesNothing(t *testing.T) {
	for _, s := range []string{"", "abc", "123456789"} {
		sealed := codec.Seal([]byte(s))
		kept := bytes.Clone(sealed)
		got, _ := codec.Unseal(sealed)
		overwrite(got)
		if !bytes.Equal(sealed, kept) {
			t.Errorf("Unseal's answer shares memory with its argument: % x", sealed)
		}
		got, _ = codec.Unseal(sealed)
		overwrite(sealed)
		if string(got) != s {
			t.Errorf("Unseal's answer changes with its argument: %q", got)
		}
	}
}
