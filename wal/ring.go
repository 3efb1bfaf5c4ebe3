package wal

import (
	"armoire/api"
	"armoire/disk"
)

const minCount = 4

// ring is the blocks of a log; their numbers go on without end, round and round.
type ring struct {
	disk         *disk.Disk
	first, count int
}

func ringOn(d *disk.Disk, first, count int) (ring, api.Errno) {
	// A difference, since the sum of first and count may be too great for an int.
	if d == nil || first < 0 || count < minCount || count > d.Blocks()-first {
		return ring{}, api.ErrArg
	}
	if !d.On() {
		return ring{}, api.ErrDown
	}
	return ring{disk: d, first: first, count: count}, api.OK
}

// block is where on the disk a block of that number stands.
func (r ring) block(number uint64) int { return r.first + int(number%uint64(r.count)) }

func (r ring) write(p piece) api.Errno { return r.disk.Write(r.block(p.number()), p.encode()) }

func (r ring) wipe(number uint64) api.Errno {
	return r.disk.Write(r.block(number), make([]byte, api.Block))
}
