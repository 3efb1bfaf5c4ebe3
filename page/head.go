package page

import (
	"slices"

	"armoire/api"
)

// A head's block begins with its mark; behind it are the long fields, then the short ones.
const (
	headMark   = "armoire1"
	longWidth  = 8
	shortWidth = 4
	seqAt      = len(headMark)
	versionAt  = seqAt + longWidth
	logAt      = versionAt + longWidth
	rootAt     = logAt + longWidth
	nextAt     = rootAt + shortWidth
	itemsAt    = nextAt + shortWidth
)

func headBytes(h api.Head) []byte {
	return slices.Concat(
		[]byte(headMark),
		fixed(h.Seq, longWidth),
		fixed(h.Version, longWidth),
		fixed(h.Log, longWidth),
		fixed(uint64(h.Root), shortWidth),
		fixed(uint64(h.Next), shortWidth),
		fixed(uint64(h.Items), shortWidth),
	)
}

// headOf is the head that a block's content tells, if it is one's; else one whose block is another one.
func headOf(content []byte) api.Head {
	return api.Head{
		Seq:     number(content[seqAt:], longWidth),
		Version: number(content[versionAt:], longWidth),
		Log:     number(content[logAt:], longWidth),
		Root:    uint32(number(content[rootAt:], shortWidth)),
		Next:    uint32(number(content[nextAt:], shortWidth)),
		Items:   uint32(number(content[itemsAt:], shortWidth)),
	}
}
