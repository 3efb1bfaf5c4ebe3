package page

import (
	"armoire/api"
	"armoire/codec"
)

const (
	sumWidth     = 4
	contentWidth = api.Block - sumWidth
)

// blockOf is the block of some bytes, of which there is room for all: what may be is less than a block.
func blockOf(b []byte) []byte {
	content := make([]byte, contentWidth)
	copy(content, b)
	return codec.Seal(content)
}

// contentOf is what a block has ahead of its sum.
func contentOf(b []byte) ([]byte, api.Errno) {
	if len(b) != api.Block {
		return nil, api.ErrShort
	}
	return codec.Unseal(b)
}

// fixed is never refused: each number is written as wide as its type is.
func fixed(n uint64, width int) []byte {
	b, _ := codec.Fixed(n, width)
	return b
}

// number is never refused where b has that many bytes.
func number(b []byte, width int) uint64 {
	n, _ := codec.Number(b, width)
	return n
}
