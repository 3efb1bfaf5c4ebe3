package inode

import (
	"armoire/api"
	"armoire/reads"
)

// find is the inode of a number, if its record stands there. The view is not asked for the number 0: that would be a fault of the place, not one of what stands there.
func find(s *Sight, ino uint32) (api.Inode, api.Errno) {
	if ino == 0 {
		return api.Inode{}, api.ErrStale
	}
	x, is, err := s.V.Get(recordOf(ino))
	if err != api.OK {
		return api.Inode{}, err
	}
	if !is {
		return api.Inode{}, api.ErrStale
	}
	return x.Inode, api.OK
}

// touch adds touches of an inode, in this order. None is refused: the number of an inode that was found is not 0.
func touch(to *reads.Set, ino uint32, kinds ...int) {
	for _, kind := range kinds {
		to.Add(api.Touch{Kind: kind, Ino: ino})
	}
}

// withFields is i with these fields, and the sum of their Bits; not, if one is no field's, or stands there twice.
func withFields(i api.Inode, l ...Field) (api.Inode, int, bool) {
	sum := 0
	for _, f := range l {
		if sum&f.Bit != 0 {
			return api.Inode{}, 0, false
		}
		switch f.Bit {
		case api.SetMode:
			i.Mode = f.N
		case api.SetLinks:
			i.Links = f.N
		case api.SetSize:
			i.Size = f.N
		default:
			return api.Inode{}, 0, false
		}
		sum |= f.Bit
	}
	return i, sum, true
}

// kindsOf are the touches of the fields of a sum, in the order in which an inode has them.
func kindsOf(sum int) []int {
	var kinds []int
	for _, f := range [...]struct{ bit, kind int }{{api.SetMode, api.Mode}, {api.SetLinks, api.Links}, {api.SetSize, api.Size}} {
		if sum&f.bit != 0 {
			kinds = append(kinds, f.kind)
		}
	}
	return kinds
}

func recordOf(ino uint32) api.Place { return api.Place{Ino: ino, Part: api.Record} }

// placesOf are those that an inode alone takes: its record, and a file's chunks up to its last byte. A directory's entries are not among them: whoever removes one looks after its names.
func placesOf(ino uint32, i api.Inode) []api.Place {
	places := []api.Place{recordOf(ino)}
	if i.Kind != api.File {
		return places
	}
	for chunk := range (i.Size + api.Chunk - 1) / api.Chunk {
		places = append(places, api.Place{Ino: ino, Part: api.Data, Chunk: uint32(chunk)})
	}
	return places
}
