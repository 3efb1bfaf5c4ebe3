package page

import (
	"iter"
	"slices"

	"armoire/api"
	"armoire/codec"
)

// A node's block begins with its mark and how many pairs or kids it has.
const (
	leafMark  = 'L'
	innerMark = 'K'
	countAt   = 1
	restAt    = 2
	kidWidth  = 4
)

func leafMayBe(n api.Node) bool {
	if len(n.Keys) > 0 || len(n.Kids) > 0 || !within(len(n.Pairs), 1, api.LeafMax) {
		return false
	}
	for p := range slices.Values(n.Pairs) {
		if len(p.Value) > api.MaxValue {
			return false
		}
	}
	return rise(keysOf(n.Pairs))
}

func innerMayBe(n api.Node) bool {
	if len(n.Pairs) > 0 || !within(len(n.Kids), 2, api.KidsMax) || len(n.Keys) != len(n.Kids)-1 {
		return false
	}
	return !slices.Contains(n.Kids, 0) && rise(slices.Values(n.Keys))
}

func within(n, least, most int) bool { return least <= n && n <= most }

func keysOf(pairs []api.KV) iter.Seq[string] {
	return func(yield func(string) bool) {
		for _, p := range pairs {
			if !yield(p.Key) {
				return
			}
		}
	}
}

// rise tells whether keys rise, each as long as a key is; the empty text is below all of these.
func rise(keys iter.Seq[string]) bool {
	last := ""
	for key := range keys {
		if len(key) != api.MaxKey || key <= last {
			return false
		}
		last = key
	}
	return true
}

func leafBytes(n api.Node) []byte {
	b := []byte{leafMark, byte(len(n.Pairs))}
	for p := range slices.Values(n.Pairs) {
		// Never refused: no value is longer than a text may be.
		value, _ := codec.Text(p.Value)
		b = slices.Concat(b, []byte(p.Key), value)
	}
	return b
}

func innerBytes(n api.Node) []byte {
	b := []byte{innerMark, byte(len(n.Kids))}
	for _, kid := range n.Kids {
		b = append(b, fixed(uint64(kid), kidWidth)...)
	}
	for _, key := range n.Keys {
		b = append(b, key...)
	}
	return b
}

// nodeOf is the node that a block's content tells, if it is one's; else something whose block is another one, or that may not be.
func nodeOf(content []byte) api.Node {
	count, rest := int(content[countAt]), content[restAt:]
	switch content[0] {
	case leafMark:
		return api.Node{Leaf: true, Pairs: slices.Collect(pairsIn(rest, count))}
	case innerMark:
		return innerOf(rest, count)
	}
	return api.Node{}
}

// pairsIn goes through the pairs that b begins with; it ends early where b is too short for them.
func pairsIn(b []byte, count int) iter.Seq[api.KV] {
	return func(yield func(api.KV) bool) {
		at := 0
		for range count {
			valueAt := at + api.MaxKey
			if valueAt > len(b) {
				return
			}
			value, width, err := codec.ReadText(b[valueAt:])
			if err != api.OK || !yield(api.KV{Key: string(b[at:valueAt]), Value: value}) {
				return
			}
			at = valueAt + width
		}
	}
}

func innerOf(b []byte, count int) api.Node {
	// A block has no room for many more kids than may be.
	if !within(count, 2, api.KidsMax) {
		return api.Node{}
	}
	n := api.Node{}
	for range count {
		n.Kids = append(n.Kids, uint32(number(b, kidWidth)))
		b = b[kidWidth:]
	}
	for range count - 1 {
		n.Keys = append(n.Keys, string(b[:api.MaxKey]))
		b = b[api.MaxKey:]
	}
	return n
}
