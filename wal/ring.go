package wal

import (
	"armoire/api"
	"armoire/disk"
)

const minCount = 4

// ring is the blocks of a log, numbered from 0 on.
type ring struct {
	disk         *disk.Disk
	first, count int
}

func ringOn(d *disk.Disk, first, count int) (ring, api.Errno) {
	// A difference, since the sum of first and count may be too great for an int.
	if d == nil || first < 0 || count < minCount || count > d.Blocks()-first {
		return ring{}, api.ErrArg
	}
	if !d.On() {
		return ring{}, api.ErrDown
	}
	return ring{disk: d, first: first, count: count}, api.OK
}

func (r ring) read(block int) ([]byte, api.Errno) { return r.disk.Read(r.first + block) }

func (r ring) write(block int, p piece) api.Errno { return r.disk.Write(r.first+block, p.encode()) }

// round are all its blocks, from the one on that a record of that number takes as long as nothing is lost.
func (r ring) round(number uint64) []int {
	start := int(number % uint64(r.count))
	list := make([]int, r.count)
	for i := range list {
		list[i] = (start + i) % r.count
	}
	return list
}
