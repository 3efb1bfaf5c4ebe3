package trunk

import (
	"armoire/api"
	"armoire/codec"
)

// A commit's record has a text with Next, and one for each step: a mark, the key, and the value.
const (
	nextWidth = 4
	putMark   = "+"
	goneMark  = "-"
	keyAt     = 1
	valueAt   = keyAt + api.MaxKey
)

func isWrong(s Step) bool {
	return len(s.Key) != api.MaxKey || len(s.Value) > api.MaxValue || s.Gone && s.Value != ""
}

func groupOf(l []Step, next uint32) []string {
	// Never refused: the number is as wide as its type is.
	b, _ := codec.Fixed(uint64(next), nextWidth)
	group := []string{string(b)}
	for _, s := range l {
		mark := putMark
		if s.Gone {
			mark = goneMark
		}
		group = append(group, mark+s.Key+s.Value)
	}
	return group
}

// stepsOf is what a record says.
func stepsOf(group []string) ([]Step, uint32, api.Errno) {
	if len(group) == 0 {
		return nil, 0, api.ErrForm
	}
	next, err := codec.Number([]byte(group[0]), nextWidth)
	if err != api.OK {
		return nil, 0, api.ErrForm
	}
	var l []Step
	for _, text := range group[1:] {
		if len(text) < valueAt {
			return nil, 0, api.ErrForm
		}
		l = append(l, Step{Key: text[keyAt:valueAt], Value: text[valueAt:], Gone: text[:keyAt] == goneMark})
	}
	return l, uint32(next), api.OK
}
