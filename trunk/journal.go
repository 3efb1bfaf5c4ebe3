package trunk

import (
	"armoire/api"
	"armoire/disk"
	"armoire/page"
	"armoire/wal"
)

// journal is what a trunk is opened by: the last head, and a record of each commit behind it.
type journal struct {
	disk *disk.Disk
	log  *wal.Log
	seq  uint64 // of the last head
	at   int    // the block where it stands
	torn bool   // the last record was not answered, and is perhaps there
}

// makeJournal makes one without any head.
func makeJournal(d *disk.Disk) (journal, api.Errno) {
	for block := range api.Fixed {
		if err := d.Write(block, make([]byte, api.Block)); err != api.OK {
			return journal{}, err
		}
	}
	log, err := wal.Make(d, api.Fixed, api.LogBlocks)
	if err != api.OK {
		return journal{}, err
	}
	return journal{disk: d, log: log}, api.OK
}

// openJournal finds the last head and the records behind it.
func openJournal(d *disk.Disk) (journal, api.Head, []wal.Rec, api.Errno) {
	h, at, err := lastHead(d)
	if err != api.OK {
		return journal{}, api.Head{}, nil, err
	}
	log, recs, err := wal.Open(d, api.Fixed, api.LogBlocks, h.Log)
	if err != api.OK {
		return journal{}, api.Head{}, nil, err
	}
	return journal{disk: d, log: log, seq: h.Seq, at: at}, h, recs, api.OK
}

// lastHead is the last head that was laid down, and the block where it stands.
func lastHead(d *disk.Disk) (api.Head, int, api.Errno) {
	last, at, err := api.Head{}, 0, api.ErrForm
	for block := range api.Fixed {
		b, failed := d.Read(block)
		if failed != api.OK {
			return api.Head{}, 0, failed
		}
		h, wrong := page.DecodeHead(b)
		if wrong == api.OK && (err != api.OK || h.Seq > last.Seq) {
			last, at, err = h, block, api.OK
		}
	}
	return last, at, err
}

// layHead lays h down as the last head. The log begins anew.
func (j *journal) layHead(h api.Head) api.Errno {
	if err := j.mend(); err != api.OK {
		return err
	}
	// The pages that a head tells of are safe ahead of it.
	if err := j.disk.Barrier(); err != api.OK {
		return err
	}
	h.Seq, h.Log = j.seq+1, j.log.Next()
	// The last one stays till this one is safe.
	at := api.Fixed - 1 - j.at
	if err := j.disk.Write(at, page.EncodeHead(h)); err != api.OK {
		return err
	}
	if err := j.disk.Barrier(); err != api.OK {
		return err
	}
	j.seq, j.at, j.torn = h.Seq, at, false
	return j.log.Let(h.Log)
}

// mend finds the log again when it is not known what it has.
func (j *journal) mend() api.Errno {
	if !j.torn {
		return api.OK
	}
	log, _, err := wal.Open(j.disk, api.Fixed, api.LogBlocks, j.log.From())
	if err != api.OK {
		return err
	}
	j.log = log
	return api.OK
}

// record lays a record down and makes it safe; h is what there is ahead of it, for a head that is wanted if the log is full or torn.
func (j *journal) record(group []string, h api.Head) api.Errno {
	err := j.tryRecord(group, h)
	j.torn = err != api.OK
	return err
}

func (j *journal) tryRecord(group []string, h api.Head) api.Errno {
	if j.torn {
		// Behind this head no other record is there.
		if err := j.layHead(h); err != api.OK {
			return err
		}
	}
	_, err := j.log.Append(group)
	if err == api.ErrFull {
		if err := j.layHead(h); err != api.OK {
			return err
		}
		_, err = j.log.Append(group)
	}
	if err != api.OK {
		return err
	}
	return j.log.Sync()
}
