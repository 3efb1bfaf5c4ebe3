package extent_test

import (
	"math"
	"testing"

	"armoire/api"
)

// P18.1 to P18.3: what stands nowhere is ErrStale; nothing is read or written.
func TestNoSuchInode(t *testing.T) {
	r := rigWith(t, textOf(40))
	r.wantAll(0, api.ErrStale)
	r.wantAll(9, api.ErrStale)
	r.wantAll(math.MaxUint32, api.ErrStale)
	r.wantFile(textOf(40))
}

// P18.1 to P18.3: of one that is gone, in the delta alone, ErrStale; its chunks do not matter.
func TestAGoneInode(t *testing.T) {
	r := rigWith(t, textOf(40))
	r.put(api.Change{Place: api.Place{Ino: 7, Part: api.Record}, Gone: true})
	r.wantAll(7, api.ErrStale)
}

// P18.1 to P18.3: of a directory ErrIsDir, whatever is asked of it; its Size is not read.
func TestADirectory(t *testing.T) {
	r := rigOf(t, api.MaxPlaces, dir(), textOf(40))
	r.wantAll(7, api.ErrIsDir)
	r.wantInode(dir())
	// One to which the delta alone gave a Size, and one that was made there, are no files either.
	r.put(sized(40))
	r.wantAll(7, api.ErrIsDir)
	r.put(api.Change{Place: api.Place{Ino: 3, Part: api.Record}, Fresh: true, Inode: dir()})
	r.wantAll(3, api.ErrIsDir)
}

// P18.1, P18.2: ErrArg ahead of all else.
func TestArg(t *testing.T) {
	r := rigWith(t, textOf(100))
	r.wantArg(7)
	r.wantArg(0)
	r.wantArg(9)
	r.wantFile(textOf(100))
	rigOf(t, 0, dir(), "").wantArg(7)
	for _, fault := range faults {
		r := rigWith(t, textOf(100))
		r.base.fault = fault
		r.wantArg(7)
	}
}

// P18.1 to P18.3: an error of the view, of the record, is handed on, and nothing else happens.
func TestTheRecordFails(t *testing.T) {
	for _, fault := range faults {
		for _, wild := range []bool{false, true} {
			r := rigWith(t, textOf(40))
			r.base.faults[recordKey(7)], r.base.wild = fault, wild
			r.wantAll(7, fault)
		}
	}
	r := rigWith(t, textOf(40))
	r.base.values[recordKey(7)] = "no inode"
	r.wantAll(7, api.ErrForm)
	// Fields of what is not there.
	r = rigWith(t, textOf(40))
	delete(r.base.values, recordKey(7))
	r.put(sized(40))
	r.wantAll(7, api.ErrState)
}

// P18.1 to P18.3: a record that fails only when it is looked at once more is as good as one that fails at once.
func TestTheRecordFailsLater(t *testing.T) {
	for _, fault := range faults {
		for _, do := range []func(r *rig){
			func(r *rig) { r.wantReadOf(7, 0, 64, "", fault) },
			func(r *rig) { r.wantWriteOf(7, 0, "x", fault) },
			func(r *rig) { r.wantTruncateOf(7, 1, fault) },
		} {
			r := rigWith(t, textOf(40))
			r.base.fault, r.base.spared = fault, 1
			do(r)
			r.wantNothing()
		}
	}
}
