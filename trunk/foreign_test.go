package trunk_test

import (
	"testing"

	"armoire/api"
	"armoire/disk"
	"armoire/wal"
)

// appendTo lays a record into the log of a trunk that was just made.
func appendTo(t *testing.T, d *disk.Disk, group []string) {
	t.Helper()
	l, _, err := wal.Open(d, api.Fixed, api.LogBlocks, 0)
	if err == api.OK {
		_, err = l.Append(group)
	}
	if err == api.OK {
		err = l.Sync()
	}
	if err != api.OK {
		t.Fatalf("%q: got %d", group, err)
	}
}
