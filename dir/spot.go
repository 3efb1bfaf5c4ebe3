package dir

import (
	"armoire/api"
	"armoire/inode"
	"armoire/path"
)

// spot is a path's place: the directory in which the last name was looked up, that name, and where it leads to; to 0, which is no inode's number, if there is no entry.
type spot struct {
	in   uint32
	name string
	to   uint32
}

// down goes some steps, each from where the one ahead led to; the first error ends it.
func down[At, Step any](at At, steps []Step, next func(At, Step) (At, api.Errno)) (At, api.Errno) {
	for _, step := range steps {
		to, err := next(at, step)
		if err != api.OK {
			var nowhere At
			return nowhere, err
		}
		at = to
	}
	return at, api.OK
}

// goDown is where the last of some names leads to, gone down from the root on.
func goDown(s *inode.Sight, names []string) (uint32, api.Errno) {
	return down(uint32(api.Root), names, func(in uint32, name string) (uint32, api.Errno) {
		to, err := lookUp(s, in, name)
		if err == api.OK && to == 0 {
			return 0, api.ErrNoEntry
		}
		return to, err
	})
}

// lookUp is where a name in an inode leads to, 0 if there is no entry of it. That there is none is read, too.
func lookUp(s *inode.Sight, in uint32, name string) (uint32, api.Errno) {
	if err := refuse(s, in, api.File, api.ErrNotDir); err != api.OK {
		return 0, err
	}
	s.Reads.Add(touchOf(in, name))
	x, _, err := s.V.Get(placeOf(in, name))
	return x.To, err
}

// namesIn are all names in a directory, which are read. An error behind some of them is handed on: whoever asks whether there is one wants to have read all.
func namesIn(s *inode.Sight, ino uint32) ([]string, api.Errno) {
	s.Reads.Add(api.Touch{Kind: api.Names, Ino: ino})
	var names []string
	for name, err := range s.V.Names(ino) {
		if err != api.OK {
			return nil, err
		}
		names = append(names, name)
	}
	return names, api.OK
}

// refuse is the error as which an inode of that kind is refused, OK of one of another kind.
func refuse(s *inode.Sight, ino uint32, kind int, as api.Errno) api.Errno {
	is, err := inode.Kind(s, ino)
	if err != api.OK {
		return err
	}
	if is == kind {
		return as
	}
	return api.OK
}

// spotOf is the place of a path.
func spotOf(s *inode.Sight, p string) (spot, api.Errno) {
	above, name, err := path.Parent(p)
	if err != api.OK {
		return spot{}, err
	}
	in, err := goDown(s, above)
	if err != api.OK {
		return spot{}, err
	}
	to, err := lookUp(s, in, name)
	if err != api.OK {
		return spot{}, err
	}
	return spot{in: in, name: name, to: to}, api.OK
}

// free is the place of a path at which there is no entry, taken that of one at which there is one.
func free(s *inode.Sight, p string) (spot, api.Errno) {
	at, err := spotOf(s, p)
	if err == api.OK && at.to != 0 {
		return spot{}, api.ErrExists
	}
	return at, err
}

func taken(s *inode.Sight, p string) (spot, api.Errno) {
	at, err := spotOf(s, p)
	if err == api.OK && at.to == 0 {
		return spot{}, api.ErrNoEntry
	}
	return at, err
}

// standsBelow tells whether p stands below old, by their names alone; ErrPath, if one of them has no place by its form.
func standsBelow(old, p string) (bool, api.Errno) {
	for _, x := range [...]string{old, p} {
		if _, _, err := path.Parent(x); err != api.OK {
			return false, err
		}
	}
	above, _ := path.Split(old) // never refused: what has a Parent is a path
	names, _ := path.Split(p)
	return path.Under(above, names), api.OK
}

// set lets an entry lead to an inode, takeAway takes one away.
func set(s *inode.Sight, at spot, to uint32) api.Errno {
	return write(s, at, api.Change{Place: placeOf(at.in, at.name), To: to})
}

func takeAway(s *inode.Sight, at spot) api.Errno {
	return write(s, at, api.Change{Place: placeOf(at.in, at.name), Gone: true})
}

func write(s *inode.Sight, at spot, c api.Change) api.Errno {
	if err := s.V.Put(c); err != api.OK {
		return err
	}
	s.Writes.Add(touchOf(at.in, at.name))
	return api.OK
}

func placeOf(in uint32, name string) api.Place {
	return api.Place{Ino: in, Part: api.Entry, Name: name}
}

// touchOf is never refused by a set: it is of a name, in an inode that was found.
func touchOf(in uint32, name string) api.Touch {
	return api.Touch{Kind: api.Name, Ino: in, Name: name}
}
