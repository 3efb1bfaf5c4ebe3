package extent

import (
	"armoire/api"
	"armoire/inode"
	"armoire/patch"
	"armoire/reads"
)

// piece is what falls into one chunk of bytes that stand side by side.
type piece struct {
	chunk int
	at    int // where in the chunk the first one stands
	bytes []byte
}

// piecesOf cuts bytes, of which the first one is the byte off of a file, where its chunks end. No piece has spare room: whoever fills one can't run on into the next.
func piecesOf(bytes []byte, off int) []piece {
	var pieces []piece
	for len(bytes) > 0 {
		at := off % api.Chunk
		n := min(api.Chunk-at, len(bytes))
		pieces = append(pieces, piece{chunk: off / api.Chunk, at: at, bytes: bytes[:n:n]})
		bytes, off = bytes[n:], off+n
	}
	return pieces
}

// bytesOf are n bytes of a file from off on. A chunk that does not stand there is all 0, as an item of nothing is.
func bytesOf(s *inode.Sight, ino uint32, off, n int) (string, api.Errno) {
	bytes := make([]byte, n)
	for _, p := range piecesOf(bytes, off) {
		x, _, err := s.V.Get(placeOf(ino, p.chunk))
		if err != api.OK {
			return "", err
		}
		copy(p.bytes, x.Bytes[p.at:])
	}
	return string(bytes), api.OK
}

// lay lays data into the chunks that it meets.
func lay(s *inode.Sight, ino uint32, off int, data string) api.Errno {
	for _, p := range piecesOf([]byte(data), off) {
		laid, _ := patch.Of(p.at, string(p.bytes)) // never refused: a piece ends where its chunk does
		if err := s.V.Put(api.Change{Place: placeOf(ino, p.chunk), Patch: laid}); err != api.OK {
			return err
		}
	}
	return api.OK
}

// wipe takes the bytes from one up to another away, with which the file ends: of the chunk that is kept up to there its rest, all others whole.
func wipe(s *inode.Sight, ino uint32, from, to int) api.Errno {
	chunk := from / api.Chunk
	if at := from % api.Chunk; at > 0 {
		rest, _ := patch.Zero(at) // never refused: it is within a chunk
		if err := s.V.Put(api.Change{Place: placeOf(ino, chunk), Patch: rest}); err != api.OK {
			return err
		}
		chunk++
	}
	for ; chunk*api.Chunk < to; chunk++ {
		if err := s.V.Put(api.Change{Place: placeOf(ino, chunk), Gone: true}); err != api.OK {
			return err
		}
	}
	return api.OK
}

// touch adds the bytes from one up to another. It is never refused: they are some, below MaxSize, of an inode that was found.
func touch(to *reads.Set, ino uint32, lo, hi int) {
	to.Add(api.Touch{Kind: api.Bytes, Ino: ino, Lo: lo, Hi: hi})
}

func placeOf(ino uint32, chunk int) api.Place {
	return api.Place{Ino: ino, Part: api.Data, Chunk: uint32(chunk)}
}
