package place

import (
	"bytes"

	"armoire/api"
	"armoire/codec"
)

// A key's bytes: the inode, the part, and the rest, which is a name, a chunk or nothing.
const (
	width  = 4 // of an inode's and of a chunk's number
	partAt = width
	restAt = partAt + 1
)

// Key is a place's key, Read the place of one.
func Key(p api.Place) (string, api.Errno) {
	if err := Check(p); err != api.OK {
		return "", err
	}
	if p.Part == api.Data {
		return keyOf(p.Ino, p.Part, fixed(p.Chunk)), api.OK
	}
	return keyOf(p.Ino, p.Part, []byte(p.Name)), api.OK
}

// Read makes the key anew of what it found: so no byte is left that the place does not account for.
func Read(key string) (api.Place, api.Errno) {
	if len(key) != api.MaxKey {
		return api.Place{}, api.ErrForm
	}
	p := placeOf([]byte(key))
	if again, err := Key(p); err != api.OK || again != key {
		return api.Place{}, api.ErrForm
	}
	return p, api.OK
}

// Span is between which keys those of an inode's part are.
func Span(ino uint32, part int) (string, string, api.Errno) {
	if ino == 0 || part < api.Record || part > api.Data {
		return "", "", api.ErrPlace
	}
	return keyOf(ino, part, nil), keyOf(ino, part+1, nil), api.OK
}

func keyOf(ino uint32, part int, rest []byte) string {
	key := make([]byte, api.MaxKey)
	copy(key, fixed(ino))
	key[partAt] = byte(part)
	copy(key[restAt:], rest)
	return string(key)
}

// placeOf is the place that key tells, if it is one's; else something whose key is another one, or that may not be.
func placeOf(key []byte) api.Place {
	ino, rest := number(key), key[restAt:]
	switch int(key[partAt]) {
	case api.Record:
		return record(ino)
	case api.Entry:
		name, _, _ := bytes.Cut(rest, []byte{0})
		return entry(ino, string(name))
	case api.Data:
		return data(ino, number(rest))
	}
	return api.Place{}
}

// fixed is never refused: no uint32 is too long for its four bytes.
func fixed(n uint32) []byte {
	b, _ := codec.Fixed(uint64(n), width)
	return b
}

// number is never refused where b has four bytes.
func number(b []byte) uint32 {
	n, _ := codec.Number(b, width)
	return uint32(n)
}
