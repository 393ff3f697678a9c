package patch

import (
	"bytes"
	"cmp"

	"vellum/api"
	"vellum/parcel"
)

// applied is the tree that a patch, which says p, makes of the one that it fits.
func applied(old tree, p api.Patch, patch []byte) ([]api.Item, api.Errno) {
	if p.Base != old.sum {
		return nil, api.ErrBase
	}
	items, can := outcome(old.items, p.Changes)
	if !can {
		return nil, api.ErrPatch
	}
	goal, e := treeOf(items)
	if e != api.OK {
		return nil, api.ErrPatch
	}
	// There is one patch from tree to tree: this one must be it.
	if again, e := Pack(between(old, goal)); e != api.OK || !bytes.Equal(again, patch) {
		return nil, api.ErrPatch
	}
	return items, api.OK
}

// outcome is what changes make of a list of items, whatever list that is; false, if they can't be done on it.
func outcome(old []api.Item, changes []api.Change) ([]api.Item, bool) {
	var items []api.Item
	for _, at := range beside(pathOfChange, parcel.Order, allPut(old), changes) {
		was, change := at[0], at[1]
		switch {
		case change == nil:
			items = append(items, copied(was.Item))
			continue
		case change.Kind == api.CPut:
			items = append(items, change.Item)
			continue
		case was == nil:
			return nil, false
		case change.Kind == api.CDrop:
			continue
		}
		item, can := edited(was.Item, *change)
		if !can {
			return nil, false
		}
		items = append(items, item)
	}
	return items, true
}

// allPut is a tree as changes: they put all of it.
func allPut(items []api.Item) []api.Change {
	changes := make([]api.Change, len(items))
	for i, item := range items {
		changes[i] = api.Change{Kind: api.CPut, Item: item}
	}
	return changes
}

// edited is what a change makes of a file; false, if it is none, or lacks a block that is to be kept.
func edited(old api.Item, change api.Change) (api.Item, bool) {
	if old.Kind != api.KFile {
		return api.Item{}, false
	}
	item := change.Item
	item.Data = nil
	for _, at := range beside(indexOf, cmp.Compare[int], blocks(change.Item.Runs, nil), blocks(change.Set, change.Item.Data), blocks(old.Runs, old.Data)) {
		wanted, set, kept := at[0], at[1], at[2]
		if wanted == nil {
			continue
		}
		from := cmp.Or(set, kept)
		if from == nil {
			return api.Item{}, false
		}
		item.Data = append(item.Data, from.bytes...)
	}
	return item, true
}
