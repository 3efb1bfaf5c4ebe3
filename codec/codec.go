// Package codec is layer 1: numbers and texts as bytes, and a sum that tells whether bytes were changed. See shared/doc/01-codec.md.
package codec

import (
	"bytes"

	"armoire/api"
)

const (
	maxWidth = 8   // a uint64 has no more bytes
	maxText  = 255 // one byte can't tell a greater length
	sumWidth = 4
)

// Fixed is a number in so many bytes, Number the number of these.
func Fixed(n uint64, width int) ([]byte, api.Errno) {
	if !mayBeWidth(width) {
		return nil, api.ErrArg
	}
	// A shift by all 64 bits leaves nothing: no number is too long for eight bytes.
	if n>>(8*width) != 0 {
		return nil, api.ErrLong
	}
	b := make([]byte, width)
	for i := range width {
		b[width-1-i] = byte(n >> (8 * i))
	}
	return b, api.OK
}

func Number(b []byte, width int) (uint64, api.Errno) {
	if !mayBeWidth(width) {
		return 0, api.ErrArg
	}
	if len(b) < width {
		return 0, api.ErrShort
	}
	n := uint64(0)
	for i := range width {
		n = n<<8 | uint64(b[i])
	}
	return n, api.OK
}

func mayBeWidth(width int) bool { return 1 <= width && width <= maxWidth }

// Text is a text's bytes, ReadText the text that bytes begin with.
func Text(s string) ([]byte, api.Errno) {
	if len(s) > maxText {
		return nil, api.ErrLong
	}
	b := make([]byte, 1+len(s))
	b[0] = byte(len(s))
	copy(b[1:], s)
	return b, api.OK
}

func ReadText(b []byte) (string, int, api.Errno) {
	if len(b) == 0 {
		return "", 0, api.ErrShort
	}
	end := 1 + int(b[0])
	if len(b) < end {
		return "", 0, api.ErrShort
	}
	return string(b[1:end]), end, api.OK
}

// Seal puts the sum of some bytes behind them, Unseal looks at it.
func Seal(b []byte) []byte {
	sum := sumBytes(b)
	sealed := make([]byte, len(b)+sumWidth)
	copy(sealed, b)
	copy(sealed[len(b):], sum[:])
	return sealed
}

func Unseal(b []byte) ([]byte, api.Errno) {
	end := len(b) - sumWidth
	if end < 0 {
		return nil, api.ErrShort
	}
	if [sumWidth]byte(b[end:]) != sumBytes(b[:end]) {
		return nil, api.ErrSum
	}
	return bytes.Clone(b[:end]), api.OK
}

// sumBytes has the lowest byte first, other than Fixed: the sum works on the lowest bits first, and only so do its bits go on where those of b end, which is what finds every change within 32 bits.
func sumBytes(b []byte) [sumWidth]byte {
	sum := Sum(b)
	var laid [sumWidth]byte
	for i := range sumWidth {
		laid[i] = byte(sum >> (8 * i))
	}
	return laid
}
