package trial

import (
	"vellum/api"
	"vellum/disk"
	"vellum/store"
)

// Maker is what a view has that makes nodes.
type Maker interface {
	View
	Clear() api.Errno
	Make(kind, parent int) (int, api.Errno)
}

// Fresh is a store of that form with so many files, committed, and a view on a new transaction.
func Fresh[V Maker](t T, form api.Super, files int, on func(*store.Tx) V) (*disk.Disk, *store.Store, V) {
	t.Helper()
	d := Formatted(t, form)
	s := Opened(t, d)
	v := on(Begun(t, s))
	Is(t, "Clear", v.Clear(), api.OK)
	for range files {
		_, e := v.Make(api.KFile, 0)
		Is(t, "Make", e, api.OK)
	}
	return d, s, Next(t, s, v, on)
}

// Next commits, and begins another transaction.
func Next[V View](t T, s *store.Store, v V, on func(*store.Tx) V) V {
	t.Helper()
	Is(t, "Commit", v.Commit(), api.OK)
	return on(Begun(t, s))
}

// OwnedBy is how many blocks a node owns that holds blocks at just these indexes.
func OwnedBy(indexes []int) int {
	indirects := map[int]struct{}{} // the places of the pointers that name them
	for _, index := range indexes {
		if index >= 138 {
			indirects[1] = struct{}{}
			indirects[2+(index-138)/128] = struct{}{}
		} else if index >= 10 {
			indirects[0] = struct{}{}
		}
	}
	return len(indexes) + len(indirects)
}

// Rows are the runs of these rising indexes.
func Rows(indexes []int) []api.Run {
	var list []api.Run
	for i, index := range indexes {
		if i == 0 || indexes[i-1] != index-1 {
			list = append(list, api.Run{From: index})
		}
		list[len(list)-1].To = index + 1
	}
	return list
}
