package trial

import (
	"bytes"

	"vellum/api"
	"vellum/disk"
	"vellum/store"
)

// T is what is asked of a test.
type T interface {
	Helper()
	Fatalf(format string, args ...any)
}

// View is what every view on a transaction has of it.
type View interface {
	Layout() api.Layout
	State() api.Errno
	Get(block int) ([]byte, api.Errno)
	Put(block int, data []byte) api.Errno
	Commit() api.Errno
	Abort() api.Errno
}

// Is asks for an error.
func Is(t T, what string, got, want api.Errno) {
	t.Helper()
	if got != want {
		t.Fatalf("%s: %v, want %v", what, got, want)
	}
}

// Fill is a block of one byte.
func Fill(x byte) []byte { return bytes.Repeat([]byte{x}, api.Size) }

// Formatted is a disk with a new store of that form.
func Formatted(t T, s api.Super) *disk.Disk {
	t.Helper()
	d, e := disk.New(s.Sectors)
	Is(t, "New", e, api.OK)
	Is(t, "Format", store.Format(d, s), api.OK)
	return d
}

// Opened is the store on a disk.
func Opened(t T, d *disk.Disk) *store.Store {
	t.Helper()
	s, e := store.Open(d)
	Is(t, "Open", e, api.OK)
	return s
}

// Begun is a new transaction.
func Begun(t T, s *store.Store) *store.Tx {
	t.Helper()
	tx, e := s.Begin()
	Is(t, "Begin", e, api.OK)
	return tx
}

// Get is a block as a transaction sees it.
func Get(t T, v View, block int) []byte {
	t.Helper()
	data, e := v.Get(block)
	Is(t, "Get", e, api.OK)
	return data
}

// Blocks are all blocks as a transaction sees them.
func Blocks(t T, v View) [][]byte {
	t.Helper()
	var list [][]byte
	for b := range v.Layout().Blocks {
		list = append(list, Get(t, v, b))
	}
	return list
}

// Unlike tells at which places two lists of blocks differ.
func Unlike(a, b [][]byte) []int {
	var list []int
	for i := range a {
		if !bytes.Equal(a[i], b[i]) {
			list = append(list, i)
		}
	}
	return list
}

// PutMany puts so many blocks, from that one on, each with other bytes.
func PutMany(t T, v View, from, count int) {
	t.Helper()
	for i := range count {
		Is(t, "Put", v.Put(from+i, Fill(byte(i+1))), api.OK)
	}
}

// Laid is a disk with a store of that form whose blocks hold these bytes from the beginning, so that nothing of them has come by a transaction.
func Laid(t T, form api.Super, blocks [][]byte) (*disk.Disk, *store.Store) {
	t.Helper()
	d := Formatted(t, form)
	for b, data := range blocks {
		Is(t, "Write", d.Write(3+form.Log+b, data), api.OK)
	}
	Is(t, "Flush", d.Flush(), api.OK)
	return d, Opened(t, d)
}
