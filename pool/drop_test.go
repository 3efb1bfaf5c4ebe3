package pool_test

import (
	"slices"
	"testing"

	"armoire/api"
	"armoire/pool"
)

// settled is a pool of 60 to 67: 60 to 62 were taken when it was settled, 63 waited, 64 and 65 are fresh, 66 and 67 are free.
func settled(t *testing.T) *pool.Pool {
	t.Helper()
	_, p := newPool(t, 68, 60)
	for i := range 4 {
		wantWrite(t, p, numbered(i), uint32(60+i))
	}
	p.Settle()
	wantDrop(t, p, 63, api.OK)
	p.Settle()
	wantWrite(t, p, numbered(4), 64)
	wantWrite(t, p, numbered(5), 65)
	wantSpace(t, p, list(60, 61, 62, 64, 65), list(63), list(66, 67))
	return p
}

// wantPages reads all that are taken or wait of settled's pages.
func wantPages(t *testing.T, p *pool.Pool, ids ...uint32) {
	t.Helper()
	taken, waiting, _ := p.Space()
	for id := uint32(60); id < 68; id++ {
		if !slices.Contains(ids, id) {
			wantReadErr(t, p, id, api.ErrNone)
			continue
		}
		wantRead(t, p, id, numbered(int(id)-60))
		if !slices.Contains(taken, int(id)) && !slices.Contains(waiting, int(id)) {
			t.Errorf("%d is neither taken nor waits", id)
		}
	}
}

// P8.3: of a page that is fresh, that is not, that waits, that is free, that is none of the pool's, twice.
func TestDrop(t *testing.T) {
	p := settled(t)
	wantDrop(t, p, 64, api.OK)
	wantSpace(t, p, list(60, 61, 62, 65), list(63), list(64, 66, 67))
	wantDrop(t, p, 64, api.ErrNone)
	wantDrop(t, p, 61, api.OK)
	wantSpace(t, p, list(60, 62, 65), list(61, 63), list(64, 66, 67))
	wantDrop(t, p, 61, api.ErrNone)
	wantDrop(t, p, 63, api.ErrNone)
	wantDrop(t, p, 66, api.ErrNone)
	for _, id := range slices.Concat(farIDs, []uint32{59, 68, 69}) {
		wantDrop(t, p, id, api.ErrNone)
	}
	wantSpace(t, p, list(60, 62, 65), list(61, 63), list(64, 66, 67))
	wantPages(t, p, 60, 61, 62, 63, 65)
}

// P8.3: Drop asks nothing of the disk.
func TestDropWithThePowerOff(t *testing.T) {
	d, p := newPool(t, 64, 60, 63)
	wantWrite(t, p, leaf("a"), 60)
	d.Cut("")
	wantDrop(t, p, 63, api.OK)
	wantDrop(t, p, 60, api.OK)
	wantDrop(t, p, 61, api.ErrNone)
	wantSpace(t, p, nil, list(63), list(60, 61, 62))
	p.Settle()
	wantSweep(t, p, 1)
	p.Undo()
	wantSpace(t, p, nil, nil, list(60, 61, 62, 63))
	if d.Writes() != 1 {
		t.Errorf("%d writes were done", d.Writes())
	}
}

// P8.3: a page that was written, dropped and written again since is fresh still; behind Settle it is not.
func TestFresh(t *testing.T) {
	p := settled(t)
	wantDrop(t, p, 64, api.OK)
	wantWrite(t, p, leaf("new"), 64)
	wantDrop(t, p, 64, api.OK)
	wantSpace(t, p, list(60, 61, 62, 65), list(63), list(64, 66, 67))
	p.Settle()
	wantDrop(t, p, 65, api.OK)
	wantSpace(t, p, list(60, 61, 62), list(63, 65), list(64, 66, 67))
}

// P8.3: a page that was dropped and swept, and whose block was written since, is fresh.
func TestFreshWhereOneWasSwept(t *testing.T) {
	p := settled(t)
	wantDrop(t, p, 60, api.OK)
	wantSweep(t, p, 2)
	wantWrite(t, p, leaf("new"), 60)
	wantDrop(t, p, 60, api.OK)
	wantSpace(t, p, list(61, 62, 64, 65), nil, list(60, 63, 66, 67))
	wantWrite(t, p, leaf("newer"), 60)
	wantWrite(t, p, leaf("newest"), 63)
	p.Undo()
	wantSpace(t, p, list(61, 62), nil, list(60, 63, 64, 65, 66, 67))
}

// P8.3: with nothing done, and twice.
func TestSettleAndUndoOfNothing(t *testing.T) {
	_, p := newPool(t, 64, 60, 61)
	for range 2 {
		p.Undo()
		wantSpace(t, p, list(61), nil, list(60, 62, 63))
		p.Settle()
		wantSpace(t, p, list(61), nil, list(60, 62, 63))
	}
}

// P8.3, P8.5: Undo behind each thing.
func TestUndo(t *testing.T) {
	for name, do := range map[string]func(*pool.Pool){
		"nothing":        func(p *pool.Pool) {},
		"Write":          func(p *pool.Pool) { wantWrite(t, p, leaf("new"), 66) },
		"Drop of fresh":  func(p *pool.Pool) { wantDrop(t, p, 64, api.OK) },
		"Drop of others": func(p *pool.Pool) { wantDrop(t, p, 60, api.OK); wantDrop(t, p, 62, api.OK) },
		"Drop and Write": func(p *pool.Pool) {
			wantDrop(t, p, 64, api.OK)
			wantDrop(t, p, 60, api.OK)
			wantWrite(t, p, leaf("new"), 64)
			wantDrop(t, p, 64, api.OK)
			wantWrite(t, p, leaf("newer"), 64)
			wantWrite(t, p, leaf("newest"), 66)
		},
		"Sweep that keeps": func(p *pool.Pool) { wantDrop(t, p, 61, api.OK); wantSweep(t, p, 0, 61, 63) },
		"Undo":             func(p *pool.Pool) { wantDrop(t, p, 61, api.OK); p.Undo() },
		"Undo, and again": func(p *pool.Pool) {
			wantDrop(t, p, 61, api.OK)
			p.Undo()
			wantWrite(t, p, leaf("new"), 64)
			wantDrop(t, p, 61, api.OK)
			wantDrop(t, p, 60, api.OK)
		},
	} {
		t.Run(name, func(t *testing.T) {
			p := settled(t)
			do(p)
			for range 2 {
				p.Undo()
				wantSpace(t, p, list(60, 61, 62), list(63), list(64, 65, 66, 67))
				wantPages(t, p, 60, 61, 62, 63)
			}
			wantDrop(t, p, 60, api.OK)
			wantSpace(t, p, list(61, 62), list(60, 63), list(64, 65, 66, 67))
		})
	}
}

// P8.3: Undo goes back to the last Settle alone.
func TestUndoBehindSettle(t *testing.T) {
	p := settled(t)
	wantDrop(t, p, 60, api.OK)
	p.Settle()
	for range 2 {
		p.Undo()
		wantSpace(t, p, list(61, 62, 64, 65), list(60, 63), list(66, 67))
		wantPages(t, p, 60, 61, 62, 63, 64, 65)
		wantWrite(t, p, leaf("new"), 66)
	}
}

// P8.4: what is swept is no business of Undo's any more, be it settled or not.
func TestUndoBehindSweep(t *testing.T) {
	p := settled(t)
	wantDrop(t, p, 60, api.OK)
	wantDrop(t, p, 61, api.OK)
	wantSweep(t, p, 2, 61)
	wantSpace(t, p, list(62, 64, 65), list(61), list(60, 63, 66, 67))
	for range 2 {
		p.Undo()
		wantSpace(t, p, list(61, 62), nil, list(60, 63, 64, 65, 66, 67))
		wantPages(t, p, 61, 62)
	}
	wantDrop(t, p, 62, api.OK)
	wantSweep(t, p, 1)
	p.Settle()
	p.Undo()
	wantSpace(t, p, list(61), nil, list(60, 62, 63, 64, 65, 66, 67))
}

// P8.3: what was swept, written anew and dropped, is none of Undo's pages.
func TestUndoWhereOneWasSweptAndWritten(t *testing.T) {
	p := settled(t)
	wantDrop(t, p, 60, api.OK)
	wantSweep(t, p, 1, 63)
	wantWrite(t, p, leaf("new"), 60)
	p.Undo()
	wantSpace(t, p, list(61, 62), list(63), list(60, 64, 65, 66, 67))
	wantPages(t, p, 61, 62, 63)
	wantWrite(t, p, leaf("new"), 60)
	p.Settle()
	wantDrop(t, p, 60, api.OK)
	p.Undo()
	wantSpace(t, p, list(60, 61, 62), list(63), list(64, 65, 66, 67))
	wantRead(t, p, 60, leaf("new"))
}
