package delta

import (
	"armoire/api"
	"armoire/item"
	"armoire/patch"
	"armoire/place"
)

// allFields are all that a change of a record may name.
const allFields = api.SetMode | api.SetLinks | api.SetSize

// part has what differs from part to part: which changes there may be, beside gone, and what becomes of a by such a b of the same place.
type part struct {
	mayBe func(c api.Change) bool
	join  func(a, b api.Change) (api.Change, api.Errno)
}

// partOf is the part of a place that may be.
func partOf(p api.Place) part {
	return [...]part{
		api.Record: {mayBe: recordMayBe, join: joinRecord},
		api.Entry:  {mayBe: entryMayBe, join: joinEntry},
		api.Data:   {mayBe: dataMayBe, join: joinData},
	}[p.Part]
}

// mayBe, and those of the parts, hold c against the change that has what is named of it and nothing else: so no field is left that must be zero.
func mayBe(c api.Change) bool {
	if place.Check(c.Place) != api.OK {
		return false
	}
	if c.Gone {
		return c == api.Change{Place: c.Place, Gone: true}
	}
	return partOf(c.Place).mayBe(c)
}

func recordMayBe(c api.Change) bool {
	if c.Fresh {
		return c == api.Change{Place: c.Place, Fresh: true, Inode: c.Inode} && item.CheckInode(c.Inode) == api.OK
	}
	return fieldsMayBe(c)
}

func fieldsMayBe(c api.Change) bool {
	if c.Fields < 1 || c.Fields > allFields {
		return false
	}
	named := withFields(api.Inode{}, c)
	file := withFields(api.Inode{Kind: api.File, Links: 1}, c)
	return c == api.Change{Place: c.Place, Fields: c.Fields, Inode: named} && item.CheckInode(file) == api.OK
}

func entryMayBe(c api.Change) bool {
	return c == api.Change{Place: c.Place, To: c.To} && c.To != 0
}

func dataMayBe(c api.Change) bool {
	return c == api.Change{Place: c.Place, Patch: patch.Trim(c.Patch)}
}

func joinRecord(a, b api.Change) (api.Change, api.Errno) {
	if b.Fresh {
		return b, api.OK
	}
	if a.Gone {
		return api.Change{}, api.ErrState
	}
	a.Inode = withFields(a.Inode, b)
	if !a.Fresh {
		a.Fields |= b.Fields
	}
	// What a file may have, a directory that a made may not.
	if !recordMayBe(a) {
		return api.Change{}, api.ErrArg
	}
	return a, api.OK
}

func joinEntry(a, b api.Change) (api.Change, api.Errno) { return b, api.OK }

func joinData(a, b api.Change) (api.Change, api.Errno) {
	if a.Gone {
		// Nothing of what stood there may shine through.
		b.Patch.Fresh = true
		return b, api.OK
	}
	b.Patch = patch.Join(a.Patch, b.Patch)
	return b, api.OK
}

// withFields is i with the fields that c names as c has them.
func withFields(i api.Inode, c api.Change) api.Inode {
	if c.Fields&api.SetMode != 0 {
		i.Mode = c.Inode.Mode
	}
	if c.Fields&api.SetLinks != 0 {
		i.Links = c.Inode.Links
	}
	if c.Fields&api.SetSize != 0 {
		i.Size = c.Inode.Size
	}
	return i
}
