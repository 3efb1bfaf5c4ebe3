package wal

import (
	"cmp"
	"slices"

	"armoire/api"
	"armoire/codec"
)

const (
	maxTexts  = 255
	maxText   = 255
	headWidth = 1 + 8 + 8 + 1 + 2
	sealWidth = 4
	pieceMax  = api.Block - headWidth - sealWidth // bytes of a record in one block
)

// kind is what a block has.
type kind uint8

const (
	nothing kind = iota
	follows      // part of a record that is none without the one just ahead of it
	begins       // part of a record that is one whatever was lost ahead of it
)

// piece is what one block has of a record. A block without any has a tail all the same: nothing else may tell it, when what overwrote the last records was itself lost.
type piece struct {
	kind   kind
	tail   uint64 // its log's, when it was written
	at     uint64 // the record's number
	index  int    // which of the record's pieces this is
	length int    // bytes that the whole record has
	body   []byte
}

func compare(a, b piece) int { return cmp.Or(cmp.Compare(a.at, b.at), cmp.Compare(a.index, b.index)) }

func mayBeRecord(group []string) bool {
	return len(group) <= maxTexts && !slices.ContainsFunc(group, isLong) && length(group) <= api.MaxRecord
}

func isLong(text string) bool { return len(text) > maxText }

// length is a record's length as the document counts it; its bytes are fewer.
func length(group []string) int {
	n := 0
	for _, text := range group {
		n += len(text) + 2
	}
	return n
}

// pieces are what a record becomes, in as few blocks as it has room in; a record without texts takes one too.
func pieces(group []string) []piece {
	body := lay(group)
	list := make([]piece, blocksFor(len(body)))
	for i := range list {
		from, to := i*pieceMax, min((i+1)*pieceMax, len(body))
		list[i] = piece{index: i, length: len(body), body: body[from:to]}
	}
	return list
}

func blocksFor(length int) int { return max(1, (length+pieceMax-1)/pieceMax) }

func lay(group []string) []byte {
	var body []byte
	for _, text := range group {
		b, _ := codec.Text(text)
		body = append(body, b...)
	}
	return body
}

func (p piece) encode() []byte {
	head := slices.Concat(fixed(uint64(p.kind), 1), fixed(p.tail, 8), fixed(p.at, 8), fixed(uint64(p.index), 1), fixed(uint64(p.length), 2))
	b := make([]byte, api.Block-sealWidth)
	copy(b, slices.Concat(head, p.body))
	return codec.Seal(b)
}

// fixed is for numbers that fit.
func fixed(n uint64, width int) []byte {
	b, _ := codec.Fixed(n, width)
	return b
}
