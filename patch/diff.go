package patch

import (
	"bytes"
	"cmp"

	"vellum/api"
	"vellum/parcel"
	"vellum/rows"
)

// between is the patch from one tree to another.
func between(old, goal tree) api.Patch {
	p := api.Patch{Base: old.sum, Goal: goal.sum}
	for path, at := range beside(pathOf, parcel.Order, old.items, goal.items) {
		if was, is := at[0], at[1]; !same(was, is) {
			p.Changes = append(p.Changes, changed(path, was, is))
		}
	}
	return p
}

// changed is what becomes of a path whose states are not the same.
func changed(path string, was, is *api.Item) api.Change {
	switch {
	case is == nil:
		return api.Change{Kind: api.CDrop, Item: api.Item{Path: path}}
	case was != nil && was.Kind == api.KFile && is.Kind == api.KFile:
		return edit(*was, *is)
	}
	return api.Change{Kind: api.CPut, Item: *is}
}

// edit is what makes one file of another.
func edit(was, is api.Item) api.Change {
	change := api.Change{Kind: api.CEdit, Item: api.Item{Kind: api.KFile, Path: is.Path, Size: is.Size, Runs: is.Runs}}
	for index, at := range beside(indexOf, cmp.Compare[int], blocks(was.Runs, was.Data), blocks(is.Runs, is.Data)) {
		had, has := at[0], at[1]
		if has == nil || had != nil && bytes.Equal(had.bytes, has.bytes) {
			continue
		}
		change.Set = rows.Join(change.Set, index)
		change.Item.Data = append(change.Item.Data, has.bytes...)
	}
	return change
}
