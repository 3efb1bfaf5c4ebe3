package wal

import "armoire/api"

// scan is all that stands on a ring from a number on: of the piece number from + i it has at i that piece, or nil.
type scan struct {
	ring   ring
	from   uint64
	pieces []*piece
}

// whole is a record all of which is there.
type whole struct {
	rec    Rec
	blocks int
}

func scanOf(r ring, from uint64) scan {
	s := scan{ring: r, from: from, pieces: make([]*piece, r.count)}
	for i := range s.pieces {
		p, done := attempt(func() piece { return readPiece(r, from+uint64(i)) })
		if done {
			s.pieces[i] = &p
		}
	}
	return s
}

// log is the log that stands there, and its records.
func (s scan) log() (*Log, []Rec) {
	l := &Log{ring: s.ring, next: s.from, since: s.from}
	var recs []Rec
	for {
		w, found := attempt(func() whole { return s.record(l.next) })
		if found {
			recs = append(recs, w.rec)
			l.add(w.rec.At, w.blocks)
			continue
		}
		since, later := s.laterSince(l.next)
		if !later {
			return l, recs
		}
		l.next, l.since = since, since
	}
}

// record reads a record, if all its pieces are there.
func (s scan) record(at uint64) whole {
	first := s.piece(at, 0)
	blocks := blocksFor(first.length)
	var body []byte
	for i := range blocks {
		body = append(body, s.piece(at, i).body...)
	}
	return whole{rec: Rec{At: at, Group: readGroup(body[:first.length])}, blocks: blocks}
}

// piece is that one of the pieces of the record at.
func (s scan) piece(at uint64, index int) *piece {
	i := s.distance(at) + uint64(index)
	if i >= uint64(len(s.pieces)) || s.pieces[i] == nil || s.pieces[i].at != at {
		panic(api.ErrNone)
	}
	return s.pieces[i]
}

// laterSince is where records begin behind one that was lost. A log may be opened from a number ahead of which records were lost, and be given new ones, and later be opened from an elder number: the new ones tell that none is missing since theirs.
func (s scan) laterSince(number uint64) (uint64, bool) {
	least, found := uint64(len(s.pieces)), false
	for _, p := range s.pieces {
		if p == nil {
			continue
		}
		since := s.distance(p.since)
		if since > s.distance(number) && since < least {
			least, found = since, true
		}
	}
	return s.from + least, found
}

// distance is how far behind from a number is; so numbers are held against each other also where they wrap round.
func (s scan) distance(number uint64) uint64 { return number - s.from }

// wipeFrom leaves what is ahead of from: a log may be opened from there again.
func (s scan) wipeFrom(number uint64) api.Errno {
	for i, p := range s.pieces {
		if p == nil || uint64(i) < s.distance(number) {
			continue
		}
		if err := s.ring.wipe(p.number()); err != api.OK {
			return err
		}
	}
	return api.OK
}
