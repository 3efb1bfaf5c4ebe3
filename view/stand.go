package view

import (
	"armoire/api"
	"armoire/item"
	"armoire/patch"
	"armoire/place"
	"armoire/trunk"
)

// values tells a key's value: a base does, and so does one on which steps were done.
type values interface {
	Get(key string) (string, bool, api.Errno)
}

// stepped is a base on which steps were done, of each key the last one.
type stepped struct {
	base Base
	last map[string]trunk.Step
}

func (s stepped) Get(key string) (string, bool, api.Errno) {
	if step, is := s.last[key]; is {
		return step.Value, !step.Gone, api.OK
	}
	return s.base.Get(key)
}

// stepOf is the step that does what a change, which may be, does to b.
func stepOf(b values, c api.Change) (trunk.Step, api.Errno) {
	x, is, err := changed(b, c)
	if err != api.OK {
		return trunk.Step{}, err
	}
	key, _ := place.Key(c.Place) // never refused: the place of such a change may be
	if !is {
		return trunk.Step{Key: key, Gone: true}, api.OK
	}
	value, err := item.Encode(c.Place.Part, x)
	if err != api.OK {
		return trunk.Step{}, err
	}
	return trunk.Step{Key: key, Value: value}, api.OK
}

// changed is what stands at the place of c behind it. What stands there in b is asked for only where that matters.
func changed(b values, c api.Change) (item.Item, bool, api.Errno) {
	switch {
	case c.Gone:
		return item.Item{}, false, api.OK
	case c.Fresh:
		return item.Item{Inode: c.Inode}, true, api.OK
	case c.Place.Part == api.Entry:
		return item.Item{To: c.To}, true, api.OK
	case c.Patch.Fresh:
		return laid(item.Item{}, c), true, api.OK
	}
	x, is, err := standing(b, c.Place)
	switch {
	case err != api.OK:
		return item.Item{}, false, err
	case c.Place.Part == api.Data:
		return laid(x, c), true, api.OK
	case !is:
		return item.Item{}, false, api.ErrState
	}
	return item.Item{Inode: withFields(x.Inode, c)}, true, api.OK
}

// standing is what stands at a place in b.
func standing(b values, p api.Place) (item.Item, bool, api.Errno) {
	key, err := place.Key(p)
	if err != api.OK {
		return item.Item{}, false, err
	}
	value, is, err := b.Get(key)
	if err != api.OK || !is {
		return item.Item{}, false, err
	}
	x, err := item.Decode(p.Part, value)
	if err != api.OK {
		return item.Item{}, false, err
	}
	return x, true, api.OK
}

// laid is a chunk with the patch of c; one that does not stand there is all 0, as an item of nothing is.
func laid(x item.Item, c api.Change) item.Item {
	return item.Item{Bytes: patch.Lay(x.Bytes, c.Patch)}
}

// withFields is i with the fields that c names as c has them. Whether that may be is not looked at: a view shows it.
func withFields(i api.Inode, c api.Change) api.Inode {
	if c.Fields&api.SetMode != 0 {
		i.Mode = c.Inode.Mode
	}
	if c.Fields&api.SetLinks != 0 {
		i.Links = c.Inode.Links
	}
	if c.Fields&api.SetSize != 0 {
		i.Size = c.Inode.Size
	}
	return i
}
