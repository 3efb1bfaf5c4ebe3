package wal

import (
	"slices"

	"armoire/api"
)

// finding is what stands on a ring. The records that are kept don't hang on the number that the log is opened from: whatever one Open leaves, each later one tells.
type finding struct {
	ring ring
	all  []found // by the records' numbers
	tail uint64
	kept []whole // by rising numbers
	end  uint64  // behind the last one
}

// found is a piece, and where it stands.
type found struct {
	piece
	block int
}

// whole is a record all of which is there.
type whole struct {
	taken
	group  []string
	begins bool
}

func findOn(r ring) finding {
	f := finding{ring: r}
	for block := range r.count {
		p, done := attempt(func() piece { return readPiece(r, block) })
		if !done {
			continue
		}
		f.tail = max(f.tail, p.tail)
		if p.kind != nothing {
			f.all = append(f.all, found{piece: p, block: block})
		}
	}
	slices.SortFunc(f.all, func(a, b found) int { return compare(a.piece, b.piece) })
	f.keep()
	return f
}

// keep keeps the records that follow upon one another from the tail on. Where some were lost, those that follow them were not safe.
func (f *finding) keep() {
	f.end = f.tail
	for i := range f.all {
		w, done := attempt(func() whole { return readWhole(f.all[i:]) })
		if done && (w.at == f.end || w.at > f.end && w.begins) {
			f.kept = append(f.kept, w)
			f.end = w.taken.end()
		}
	}
}

// wipeRest overwrites what is not kept: else it would stand behind what is appended next.
func (f finding) wipeRest() api.Errno {
	held := held(f.ring.count, f.kept)
	for _, x := range f.all {
		if held[x.block] {
			continue
		}
		if err := f.ring.write(x.block, piece{tail: f.tail}); err != api.OK {
			return err
		}
	}
	return api.OK
}

// held tells of each block whether one of the records takes it.
func held(count int, list []whole) []bool {
	held := make([]bool, count)
	for _, w := range list {
		for _, block := range w.blocks {
			held[block] = true
		}
	}
	return held
}

// log is the log from that number on.
func (f finding) log(from uint64) *Log {
	l := &Log{ring: f.ring, next: max(from, f.end), tail: f.tail}
	held := held(f.ring.count, f.kept)
	for _, block := range f.ring.round(l.next) {
		if !held[block] {
			l.free = append(l.free, slot{block: block})
		}
	}
	first := f.firstFrom(from)
	for _, w := range f.kept[:first] {
		l.free = append(l.free, slotsOf(w.taken)...)
	}
	for _, w := range f.kept[first:] {
		l.there = append(l.there, w.taken)
	}
	return l
}

// records are those from that number on.
func (f finding) records(from uint64) []Rec {
	var list []Rec
	for _, w := range f.kept[f.firstFrom(from):] {
		list = append(list, Rec{At: w.at, Group: w.group})
	}
	return list
}

func (f finding) firstFrom(from uint64) int {
	i := slices.IndexFunc(f.kept, func(w whole) bool { return w.at >= from })
	if i < 0 {
		return len(f.kept)
	}
	return i
}
