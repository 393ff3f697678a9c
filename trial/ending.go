package trial

import (
	"vellum/api"
	"vellum/disk"
	"vellum/store"
)

// Ending is something that becomes of a transaction, and what all its calls answer then.
type Ending struct {
	What string
	End  func(d *disk.Disk, s *store.Store, tx *store.Tx)
	Want api.Errno
}

// Endings are those that a transaction has from without.
func Endings() []Ending {
	list := []Ending{
		{"committed", func(d *disk.Disk, s *store.Store, tx *store.Tx) { tx.Commit() }, api.ErrEnded},
		{"aborted", func(d *disk.Disk, s *store.Store, tx *store.Tx) { tx.Abort() }, api.ErrEnded},
		{"spoilt and aborted", func(d *disk.Disk, s *store.Store, tx *store.Tx) { tx.Spoil(api.ErrNoSpace); tx.Abort() }, api.ErrEnded},
		{"cut", func(d *disk.Disk, s *store.Store, tx *store.Tx) { d.Crash(nil) }, api.ErrDead},
		{"aborted and cut", func(d *disk.Disk, s *store.Store, tx *store.Tx) { tx.Abort(); d.Crash(nil) }, api.ErrDead},
		{"spoilt and cut", func(d *disk.Disk, s *store.Store, tx *store.Tx) { tx.Spoil(api.ErrBudget); d.Crash(nil) }, api.ErrDead},
		{"opened again", func(d *disk.Disk, s *store.Store, tx *store.Tx) { store.Open(d) }, api.ErrDead},
		{"burnt", func(d *disk.Disk, s *store.Store, tx *store.Tx) { d.Fuse(0); s.Sync() }, api.ErrDead},
	}
	for _, by := range []api.Errno{api.ErrCorrupt, api.ErrBudget, api.ErrNoSpace, api.ErrNoNodes} {
		list = append(list, Ending{"spoilt", func(d *disk.Disk, s *store.Store, tx *store.Tx) { tx.Spoil(by) }, by})
	}
	return list
}
