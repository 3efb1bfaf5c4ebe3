package wal

import (
	"armoire/api"
	"armoire/codec"
)

// reader reads bytes, one thing behind the other.
type reader struct{ rest []byte }

// attempt is what read answers, if it does: whoever reads gives up by panic, from however far down.
func attempt[T any](read func() T) (x T, done bool) {
	defer func() {
		done = recover() == nil
	}()
	return read(), true
}

// must is x; with an error whoever reads gives up.
func must[T any](x T, err api.Errno) T {
	if err != api.OK {
		panic(err)
	}
	return x
}

func (r *reader) number(width int) uint64 {
	n := must(codec.Number(r.rest, width))
	r.rest = r.rest[width:]
	return n
}

func (r *reader) text() string {
	s, end, err := codec.ReadText(r.rest)
	r.rest = r.rest[end:]
	return must(s, err)
}

// readPiece reads the piece of that number; elder ones may stand at its place.
func readPiece(r ring, number uint64) piece {
	in := reader{rest: must(codec.Unseal(must(r.disk.Read(r.block(number)))))}
	p := piece{at: in.number(8), since: in.number(8), index: int(in.number(1)), length: int(in.number(2))}
	if p.number() != number {
		panic(api.ErrNone)
	}
	p.body = in.rest
	return p
}

func readGroup(body []byte) []string {
	in := reader{rest: body}
	var group []string
	for len(in.rest) > 0 {
		group = append(group, in.text())
	}
	return group
}
