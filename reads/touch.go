package reads

import "armoire/api"

// Check is why a touch may not be, Meet tells whether two meet.
func Check(t api.Touch) api.Errno {
	if !mayBe(t) {
		return api.ErrArg
	}
	return api.OK
}

func Meet(read, written api.Touch) bool {
	return mayBe(read) && mayBe(written) && read.Ino == written.Ino && meetWithin(read, written)
}

func mayBe(t api.Touch) bool {
	rest := api.Touch{Name: t.Name, Lo: t.Lo, Hi: t.Hi} // of this, what the kind does not name
	switch t.Kind {
	case api.Bytes:
		if t.Lo < 0 || t.Lo >= t.Hi || t.Hi > api.MaxSize {
			return false
		}
		rest.Lo, rest.Hi = 0, 0
	case api.Name:
		if t.Name == "" {
			return false
		}
		rest.Name = ""
	case api.Mode, api.Links, api.Size, api.Names, api.All:
	default:
		return false
	}
	return t.Ino != 0 && rest == api.Touch{}
}

// meetWithin tells whether two of one inode meet, which both may be. The narrower what was read is, the more is asked ahead of what is asked of all: what a kind does not name is zero on both sides, so that it stands in no other's way.
func meetWithin(read, written api.Touch) bool {
	if written.Kind == api.All {
		return true
	}
	switch read.Kind {
	case api.Names:
		return written.Kind == api.Name
	case api.Bytes:
		if max(read.Lo, written.Lo) >= min(read.Hi, written.Hi) {
			return false
		}
		fallthrough
	case api.Name:
		if read.Name != written.Name {
			return false
		}
		fallthrough
	case api.Mode, api.Links, api.Size:
		return read.Kind == written.Kind
	}
	return false
}
