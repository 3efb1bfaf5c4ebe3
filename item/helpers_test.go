package item_test

import (
	"encoding/binary"
	"math"
	"math/rand"
	"slices"
	"testing"

	"armoire/api"
	"armoire/item"
)

// The parts, what is none, and what is taken for one of them if only some of its bits are looked at.
var (
	parts      = []int{api.Record, api.Entry, api.Data}
	wrongParts = []int{math.MinInt, -3, -2, -1, api.NoPart, 4, 5, 255, 256 + api.Record, 256 + api.Entry, 256 + api.Data, 1<<32 + api.Record, 1<<32 + api.Data, math.MaxInt}
)

// Fields of an inode: the edges that the document names, and what is taken for them if only some of its bits are looked at.
var (
	kinds = []int{math.MinInt, -1, api.NoKind, api.File, api.Dir, 3, 4, 255, 256 + api.File, 256 + api.Dir, 1<<32 + api.File, math.MaxInt}
	modes = []int{math.MinInt, -1, 0, 1, 6, 255, 256, 510, 511, 512, 513, 65535, 65536, 65536 + 6, 1<<32 + 6, math.MaxInt}
	links = []int{math.MinInt, -1, 0, 1, 2, 14, 15, 16, 17, 255, 256, 256 + 1, 1<<32 + 1, math.MaxInt}
	sizes = []int{math.MinInt, -1, 0, 1, 31, 32, 255, 256, 258, 511, 512, 513, 65535, 65536, 65536 + 1, 1<<32 + 1, math.MaxInt}
	tos   = []uint32{1, 2, 7, 255, 256, 0x01020304, 65535, 65536, 1 << 24, 0x7fffffff, 0x80000000, math.MaxUint32 - 1, math.MaxUint32}
)

// isInode is what the document says of an inode that may be.
func isInode(i api.Inode) bool {
	return i.Mode >= 0 && i.Mode <= 511 &&
		(i.Kind == 1 && i.Links >= 1 && i.Links <= 15 && i.Size >= 0 && i.Size <= 512 ||
			i.Kind == 2 && i.Links == 1 && i.Size == 0)
}

// isItem is what the document says of what stands at a place of a part.
func isItem(part int, x item.Item) bool {
	noInode, noTo, noBytes := x.Inode == api.Inode{}, x.To == 0, x.Bytes == [32]byte{}
	return part == 1 && isInode(x.Inode) && noTo && noBytes ||
		part == 2 && noInode && !noTo && noBytes ||
		part == 3 && noInode && noTo
}

// valueFor is what the document says of the value of what stands at a place, by the library's means.
func valueFor(part int, x item.Item) string {
	var b []byte
	switch part {
	case 1:
		b = append(b, byte(x.Inode.Kind))
		b = binary.BigEndian.AppendUint16(b, uint16(x.Inode.Mode))
		b = append(b, byte(x.Inode.Links))
		b = binary.BigEndian.AppendUint16(b, uint16(x.Inode.Size))
	case 2:
		b = binary.BigEndian.AppendUint32(b, x.To)
	case 3:
		b = append(b, x.Bytes[:]...)
	}
	return string(b)
}

// anyInodes are all that are made of the edges: most of them may not be.
func anyInodes() []api.Inode {
	var l []api.Inode
	for _, kind := range kinds {
		for _, mode := range modes {
			for _, n := range links {
				for _, size := range sizes {
					l = append(l, api.Inode{Kind: kind, Mode: mode, Links: n, Size: size})
				}
			}
		}
	}
	return l
}

// someChunks are all bytes 0, one that is not, at each position, and some of everything.
func someChunks() [][api.Chunk]byte {
	l := [][api.Chunk]byte{{}}
	for at := range api.Chunk {
		for _, c := range []byte{1, 0x80, 255} {
			var chunk [api.Chunk]byte
			chunk[at] = c
			l = append(l, chunk)
		}
	}
	source := rand.New(rand.NewSource(4))
	for range 100 {
		var chunk [api.Chunk]byte
		source.Read(chunk[:])
		l = append(l, chunk)
	}
	return l
}

// standing are items that stand at places of a part.
func standing(part int) []item.Item {
	var l []item.Item
	switch part {
	case api.Record:
		for _, i := range anyInodes() {
			if isInode(i) {
				l = append(l, item.Item{Inode: i})
			}
		}
	case api.Entry:
		for _, to := range tos {
			l = append(l, item.Item{To: to})
		}
	case api.Data:
		for _, chunk := range someChunks() {
			l = append(l, item.Item{Bytes: chunk})
		}
	}
	return l
}

// anyItems have something in each field, or nothing.
func anyItems() []item.Item {
	var l []item.Item
	inodes := []api.Inode{{}, {Kind: api.File}, {Mode: 1}, {Links: 1}, {Size: 1}, {Size: -1},
		{Kind: api.File, Mode: 6, Links: 1, Size: 258}, {Kind: api.Dir, Links: 1}, {Kind: api.Dir, Links: 1, Size: 1}}
	for _, i := range inodes {
		for _, to := range slices.Concat([]uint32{0}, tos) {
			for _, chunk := range someChunks() {
				l = append(l, item.Item{Inode: i, To: to, Bytes: chunk})
			}
		}
	}
	return l
}

func wantValue(t *testing.T, part int, x item.Item, value string) {
	t.Helper()
	if got, err := item.Encode(part, x); got != value || err != api.OK {
		t.Errorf("Encode(%d, %v): got % x, %d, want % x", part, x, got, err, value)
	}
	if got, err := item.Decode(part, value); got != x || err != api.OK {
		t.Errorf("Decode(%d, % x): got %v, %d, want %v", part, value, got, err, x)
	}
}

func wantNoItem(t *testing.T, part int, x item.Item, want api.Errno) {
	t.Helper()
	if got, err := item.Encode(part, x); got != "" || err != want {
		t.Errorf("Encode(%d, %v): got % x, %d, want nothing, %d", part, x, got, err, want)
	}
}

func wantNoValue(t *testing.T, part int, value string, want api.Errno) {
	t.Helper()
	if got, err := item.Decode(part, value); got != (item.Item{}) || err != want {
		t.Errorf("Decode(%d, % x): got %v, %d, want nothing, %d", part, value, got, err, want)
	}
}
