package reads

import (
	"slices"
	"sort"

	"armoire/api"
)

// deed is what a version wrote.
type deed struct {
	version uint64
	written []api.Touch
}

// History keeps what versions wrote.
type History struct {
	deeds []deed // rising by their versions
}

// NewHistory makes one.
func NewHistory() *History { return &History{} }

// Add adds a version, Meets asks them, Forget lets the first ones go, Len is how many there are.
func (h *History) Add(version uint64, written []api.Touch) api.Errno {
	if n := len(h.deeds); n > 0 && version <= h.deeds[n-1].version {
		return api.ErrArg
	}
	for _, t := range written {
		if err := Check(t); err != api.OK {
			return err
		}
	}
	h.deeds = append(h.deeds, deed{version: version, written: slices.Clone(written)})
	return api.OK
}

func (h *History) Meets(since uint64, read []api.Touch) bool {
	for _, d := range h.deeds[h.behind(since):] {
		if d.meets(read) {
			return true
		}
	}
	return false
}

func (h *History) Forget(upTo uint64) { h.deeds = slices.Delete(h.deeds, 0, h.behind(upTo)) }

func (h *History) Len() int { return len(h.deeds) }

// behind is where the versions above one begin.
func (h *History) behind(version uint64) int {
	return sort.Search(len(h.deeds), func(i int) bool { return h.deeds[i].version > version })
}

func (d deed) meets(read []api.Touch) bool {
	for _, w := range d.written {
		if slices.ContainsFunc(read, func(r api.Touch) bool { return Meet(r, w) }) {
			return true
		}
	}
	return false
}
