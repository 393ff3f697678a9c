package patch

import (
	"bytes"
	"slices"

	"vellum/api"
	"vellum/dump"
	"vellum/fs"
	"vellum/parcel"
)

// tree is a right list of items, and its sum.
type tree struct {
	items []api.Item
	sum   int
}

// treeOf is the tree of items, if they are one.
func treeOf(items []api.Item) (tree, api.Errno) {
	archive, e := dump.Pack(items)
	if e != api.OK {
		return tree{}, e
	}
	return tree{items, sumOf(archive)}, api.OK
}

// treeOn is the tree of a file system.
func treeOn(f *fs.FS) (tree, api.Errno) {
	archive, e := dump.Save(f)
	if e != api.OK {
		return tree{}, e
	}
	items, e := dump.List(archive)
	return tree{items, sumOf(archive)}, e
}

// sumOf is the number with which an archive ends.
func sumOf(archive []byte) int {
	return parcel.NewReader(archive[len(archive)-parcel.SumBytes:]).Number(parcel.SumBytes)
}

// same says whether two states are the same; nil is that of a path that is not there.
func same(x, y *api.Item) bool {
	if x == nil || y == nil {
		return x == y
	}
	return x.Kind == y.Kind && x.Target == y.Target && x.Size == y.Size && slices.Equal(x.Runs, y.Runs) && bytes.Equal(x.Data, y.Data)
}

// copied is an item with lists of its own.
func copied(item api.Item) api.Item {
	item.Runs = slices.Clone(item.Runs)
	item.Data = bytes.Clone(item.Data)
	return item
}

// block is what a file holds at an index.
type block struct {
	index int
	bytes []byte
}

func indexOf(b block) int { return b.index }

// blocks are those of rows, with their bytes; without data, the indexes alone.
func blocks(runs []api.Run, data []byte) []block {
	var list []block
	for _, run := range runs {
		for index := run.From; index < run.To; index++ {
			size := min(api.Size, len(data))
			list = append(list, block{index, data[:size]})
			data = data[size:]
		}
	}
	return list
}
