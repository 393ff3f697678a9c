// Package put: how an item comes into a file system: dump, salvage and patch share it.
package put

import (
	"slices"

	"vellum/api"
)

// Operations are what puts an item into a file system, one after the other.
func Operations(item api.Item) []api.Op {
	switch item.Kind {
	case api.KDir:
		return []api.Op{{Kind: api.OpMkdir, Path: item.Path}}
	case api.KLink:
		return []api.Op{{Kind: api.OpSymlink, Path: item.Path, Other: item.Target}}
	case api.KName:
		return []api.Op{{Kind: api.OpLink, Path: item.Target, Other: item.Path}}
	}
	create := []api.Op{{Kind: api.OpCreate, Path: item.Path}}
	if item.Size == 0 {
		return create
	}
	// The size comes ahead of the bytes: a hole at the end is written by nobody.
	return append(append(create, api.Op{Kind: api.OpTruncate, Path: item.Path, N: item.Size}), Writes(item)...)
}

// Writes are what fills the runs of a file with its bytes, as far as they lie ahead of its size.
func Writes(file api.Item) []api.Op {
	var ops []api.Op
	data := file.Data
	for _, run := range file.Runs {
		at, end := run.From*api.Size, run.To*api.Size
		ahead := data[:min(end, file.Size)-at]
		data = data[end-at:]
		for piece := range slices.Chunk(ahead, api.MaxIO) {
			ops = append(ops, api.Op{Kind: api.OpWrite, Path: file.Path, Off: at, Data: piece})
			at += len(piece)
		}
	}
	return ops
}
