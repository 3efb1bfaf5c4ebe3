package view

import (
	"iter"
	"slices"
	"strings"

	"armoire/api"
	"armoire/place"
)

// entries are the delta's changes of the entries of an inode, by their names.
func (v *View) entries(ino uint32) []api.Change {
	return slices.DeleteFunc(v.delta.All(), func(c api.Change) bool {
		return c.Place.Ino != ino || c.Place.Part != api.Entry
	})
}

// namesOf goes through the names of the entries whose pairs these are, up to a key. It ends at an error.
func namesOf(pairs iter.Seq2[api.KV, api.Errno], to string) iter.Seq2[string, api.Errno] {
	return func(yield func(string, api.Errno) bool) {
		for pair, err := range pairs {
			if err != api.OK {
				yield("", err)
				return
			}
			if pair.Key >= to {
				return
			}
			p, err := place.Read(pair.Key)
			if err == api.OK && !yield(p.Name, api.OK) {
				return
			}
		}
	}
}

// merged goes through names that rise, and through those that changes of entries, by their names, set; not through those that these take away. It ends at an error.
func merged(names iter.Seq2[string, api.Errno], changes []api.Change) iter.Seq2[string, api.Errno] {
	return func(yield func(string, api.Errno) bool) {
		rest := changes
		for name, err := range names {
			if err != api.OK {
				yield("", err)
				return
			}
			at, is := slices.BinarySearchFunc(rest, name, compareName)
			if is {
				// The change of that name says whether it is told.
				at++
			}
			if !tellSet(rest[:at], yield) || !is && !yield(name, api.OK) {
				return
			}
			rest = rest[at:]
		}
		tellSet(rest, yield)
	}
}

// tellSet tells the names that changes set, and answers whether to go on.
func tellSet(changes []api.Change, yield func(string, api.Errno) bool) bool {
	for _, c := range changes {
		if !c.Gone && !yield(c.Place.Name, api.OK) {
			return false
		}
	}
	return true
}

func compareName(c api.Change, name string) int { return strings.Compare(c.Place.Name, name) }
