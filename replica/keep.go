package replica

import (
	"hedgerow/api"
	"hedgerow/journal"
	"hedgerow/memory"
)

// Sync syncs the disk.
func (r *Replica) Sync() api.Errno {
	if err := r.ready(); err != api.OK {
		return err
	}
	r.disk.Sync()
	return api.OK
}

// Compact puts a snapshot in place of all records.
func (r *Replica) Compact() api.Errno {
	if err := r.ready(); err != api.OK {
		return err
	}
	all, err := r.memory.Snapshot()
	if err != api.OK {
		return err
	}
	if err = journal.Rewrite(r.disk, []journal.Record{all}); err != api.OK {
		return err
	}
	r.spoilt = false
	return api.OK
}

// Crash stops it, and loses a part of what isn't synced.
func (r *Replica) Crash(keep, at int, by byte) api.Errno {
	if err := r.ready(); err != api.OK {
		return err
	}
	r.disk.Crash(keep, at, by)
	r.running, r.memory = false, memory.Memory{}
	return api.OK
}

// Spoil turns a byte that is synced.
func (r *Replica) Spoil(at int, by byte) api.Errno {
	if err := r.ready(); err != api.OK {
		return err
	}
	switch {
	case at < 0 || at >= r.disk.Synced():
		return api.ErrRange
	case r.spoilt:
		return api.ErrNone
	}
	r.disk.Spoil(at, by)
	r.spoilt = true
	return api.OK
}

// Recover lets it run again.
func (r *Replica) Recover() api.Errno {
	switch {
	case r == nil:
		return api.ErrArg
	case r.running:
		return api.ErrNone
	}
	// A twin is recovered, so that the disk is as it was if its records are no replica's.
	d := r.disk.Twin()
	records, err := journal.Recover(d)
	if err != api.OK {
		return err
	}
	m, err := memory.Recall(r.n, r.self, records)
	if err != api.OK {
		return err
	}
	r.running, r.memory, r.disk, r.spoilt = true, m, d, false
	return api.OK
}

// Disk is how many bytes there are, and how many are synced.
func (r *Replica) Disk() (bytes, synced int) {
	if r == nil {
		return 0, 0
	}
	return len(r.disk.Bytes()), r.disk.Synced()
}
