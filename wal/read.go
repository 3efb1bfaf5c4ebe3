package wal

import (
	"armoire/api"
	"armoire/codec"
)

// reader reads bytes, one thing behind the other.
type reader struct{ rest []byte }

// attempt is what read answers, if it does: whoever reads gives up by panic, from however far down.
func attempt[T any](read func() T) (x T, done bool) {
	defer func() {
		done = recover() == nil
	}()
	return read(), true
}

// must is x; with an error whoever reads gives up.
func must[T any](x T, err api.Errno) T {
	if err != api.OK {
		panic(err)
	}
	return x
}

func (r *reader) number(width int) uint64 {
	n := must(codec.Number(r.rest, width))
	r.rest = r.rest[width:]
	return n
}

func (r *reader) text() string {
	s, end, err := codec.ReadText(r.rest)
	r.rest = r.rest[end:]
	return must(s, err)
}

func readPiece(r ring, block int) piece {
	in := reader{rest: must(codec.Unseal(must(r.read(block))))}
	p := piece{kind: kind(in.number(1)), tail: in.number(8), at: in.number(8), index: int(in.number(1)), length: int(in.number(2))}
	p.body = in.rest
	return p
}

func readGroup(body []byte) []string {
	in := reader{rest: body}
	var group []string
	for len(in.rest) > 0 {
		group = append(group, in.text())
	}
	return group
}

// readWhole reads the record whose pieces, in their order, stand first.
func readWhole(list []found) whole {
	first := list[0]
	w := whole{taken: taken{at: first.at}, begins: first.kind == begins}
	var body []byte
	for i := range blocksFor(first.length) {
		if i == len(list) || list[i].at != first.at || list[i].index != i {
			panic(api.ErrNone)
		}
		body = append(body, list[i].body...)
		w.blocks = append(w.blocks, list[i].block)
	}
	w.group = readGroup(body[:first.length])
	return w
}
