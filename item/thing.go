package item

import (
	"slices"

	"armoire/api"
	"armoire/codec"
)

// A thing is what stands at a place, with nothing that is not its part's: a record, an entry or data.
type thing any

type (
	record api.Inode
	entry  uint32
	data   [api.Chunk]byte
)

// A record's value: its fields one behind the other.
const (
	kindWidth   = 1
	modeWidth   = 2
	linksWidth  = 1
	sizeWidth   = 2
	modeAt      = kindWidth
	linksAt     = modeAt + modeWidth
	sizeAt      = linksAt + linksWidth
	recordWidth = sizeAt + sizeWidth
)

const entryWidth = 4

// widthOf is how many bytes the values of a part have; none has 0, so that is no part's.
func widthOf(part int) int {
	switch part {
	case api.Record:
		return recordWidth
	case api.Entry:
		return entryWidth
	case api.Data:
		return api.Chunk
	}
	return 0
}

// take is what x has for its part.
func take(part int, x Item) thing {
	switch part {
	case api.Record:
		return record(x.Inode)
	case api.Entry:
		return entry(x.To)
	}
	return data(x.Bytes)
}

func give(t thing) Item {
	switch t := t.(type) {
	case record:
		return Item{Inode: api.Inode(t)}
	case entry:
		return Item{To: uint32(t)}
	case data:
		return Item{Bytes: t}
	}
	return Item{}
}

// stands tells whether a thing may stand at a place.
func stands(t thing) bool {
	switch t := t.(type) {
	case record:
		return mayBe(api.Inode(t))
	case entry:
		return t != 0
	case data:
		return true
	}
	return false
}

// write is the value of a thing that stands.
func write(t thing) []byte {
	switch t := t.(type) {
	case record:
		return slices.Concat(
			fixed(uint64(t.Kind), kindWidth),
			fixed(uint64(t.Mode), modeWidth),
			fixed(uint64(t.Links), linksWidth),
			fixed(uint64(t.Size), sizeWidth),
		)
	case entry:
		return fixed(uint64(t), entryWidth)
	case data:
		return t[:]
	}
	return nil
}

// read is the thing of a value that is as wide as its part's are; whether it stands is not looked at.
func read(part int, value []byte) thing {
	switch part {
	case api.Record:
		return record{
			Kind:  int(number(value[:modeAt])),
			Mode:  int(number(value[modeAt:linksAt])),
			Links: int(number(value[linksAt:sizeAt])),
			Size:  int(number(value[sizeAt:])),
		}
	case api.Entry:
		return entry(number(value))
	}
	return data(value)
}

// fixed is never refused: what stands is no wider than its field.
func fixed(n uint64, width int) []byte {
	b, _ := codec.Fixed(n, width)
	return b
}

// number is never refused: no field is wider than a number may be.
func number(b []byte) uint64 {
	n, _ := codec.Number(b, len(b))
	return n
}
