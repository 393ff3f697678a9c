package patch

import (
	"cmp"
	"slices"

	"vellum/api"
	"vellum/parcel"
	"vellum/put"
	"vellum/rows"
)

// task is a change, with the item that its path has; of a path that has none, its kind is KNone.
type task struct {
	change api.Change
	old    api.Item
}

// way is what a kind of change does on a file system, each of these for all changes ahead of the next: what goes frees its room and its names, then files lose blocks, and at last there is room for what comes.
type way struct {
	clears, cuts, fills func(task) []api.Op
}

// ways tells them by the kinds of changes.
func ways() [api.CEdit + 1]way {
	return [...]way{
		api.CDrop: {removes, nothing, nothing},
		api.CPut:  {removes, nothing, puts},
		api.CEdit: {nothing, cuts, writes},
	}
}

// operations are all that the changes do on a file system that has these items.
func operations(old []api.Item, changes []api.Change) []api.Op {
	tasks, table := tasksOf(old, changes), ways()
	var ops []api.Op
	for _, t := range slices.Backward(tasks) { // a directory must be empty ahead of its going
		ops = append(ops, table[t.change.Kind].clears(t)...)
	}
	for _, t := range tasks {
		ops = append(ops, table[t.change.Kind].cuts(t)...)
	}
	for _, t := range tasks {
		ops = append(ops, table[t.change.Kind].fills(t)...)
	}
	return ops
}

func tasksOf(old []api.Item, changes []api.Change) []task {
	var tasks []task
	for _, at := range beside(pathOfChange, parcel.Order, allPut(old), changes) {
		was, change := at[0], at[1]
		switch {
		case change == nil:
		case was == nil:
			tasks = append(tasks, task{change: *change})
		default:
			tasks = append(tasks, task{*change, was.Item})
		}
	}
	return tasks
}

func nothing(task) []api.Op { return nil }

func removes(t task) []api.Op {
	switch t.old.Kind {
	case api.KNone:
		return nil
	case api.KDir:
		return []api.Op{{Kind: api.OpRmdir, Path: t.old.Path}}
	}
	return []api.Op{{Kind: api.OpUnlink, Path: t.old.Path}}
}

func puts(t task) []api.Op { return put.Operations(t.change.Item) }

// cuts gives a file its size, and takes out the blocks below it that the file is to lose.
func cuts(t task) []api.Op {
	var ops []api.Op
	item := t.change.Item
	if item.Size != t.old.Size {
		ops = append(ops, api.Op{Kind: api.OpTruncate, Path: item.Path, N: item.Size})
	}
	for _, run := range lost(t.old, item) {
		ops = append(ops, api.Op{Kind: api.OpPunch, Path: item.Path, Off: run.From * api.Size, N: (run.To - run.From) * api.Size})
	}
	return ops
}

// lost are the indexes below the new size at which the old file has a block, and the new one none.
func lost(old, item api.Item) []api.Run {
	var runs []api.Run
	for index, at := range beside(indexOf, cmp.Compare[int], blocks(old.Runs, nil), blocks(item.Runs, nil)) {
		if index*api.Size >= item.Size {
			break
		}
		if has := at[1] != nil; !has {
			runs = rows.Join(runs, index)
		}
	}
	return runs
}

// writes lays the bytes that are others.
func writes(t task) []api.Op {
	item := t.change.Item
	item.Runs = t.change.Set
	return put.Writes(item)
}
