// Package parcel: an item by itself: how its path is written, what it may hold, and its bytes. Archives and patches are made of such ones: dump and patch share it.
package parcel

import (
	"cmp"
	"slices"
	"strings"

	"vellum/api"
	"vellum/codec"
	"vellum/rows"
	"vellum/walk"
)

const slash = "/"

// Written says whether a path is written as the paths of items are: its own parts, each with one slash ahead of it.
func Written(path string) bool {
	parts, e := walk.Split(path)
	return e == api.OK && len(parts) > 0 && slash+strings.Join(parts, slash) == path && !slices.ContainsFunc(parts, noName)
}

// noName tells the part .. too, against which Split has nothing.
func noName(part string) bool { return codec.Name(part) != api.OK }

// Order is the order of paths that are written so. The empty text comes ahead of them all.
func Order(a, b string) int {
	for i := range min(len(a), len(b)) {
		if a[i] != b[i] {
			return cmp.Compare(rank(a[i]), rank(b[i]))
		}
	}
	return cmp.Compare(len(a), len(b))
}

// rank is a byte as it is compared: a slash ends a part, so it comes ahead of all bytes that a name can have.
func rank(x byte) byte {
	if x == '/' {
		return 0
	}
	return x
}

// Above is the path of the directory in which a path lies; that of the root is empty.
func Above(path string) string { return path[:strings.LastIndex(path, slash)] }

// Fits says whether an item has what its kind has, and no more; of a name, whatever its target is: that hangs on other items.
func Fits(item api.Item) bool {
	switch item.Kind {
	case api.KFile:
		return item.Target == "" && Spread(item.Size, item.Runs) && Filled(item.Size, item.Runs, item.Data)
	case api.KDir:
		return item.Target == "" && Bare(item)
	case api.KLink:
		return text(item.Target) && Bare(item)
	case api.KName:
		return Bare(item)
	}
	return false
}

// Bare says whether an item has nothing that files alone have.
func Bare(item api.Item) bool {
	return item.Size == 0 && len(item.Runs) == 0 && len(item.Data) == 0
}

func text(target string) bool {
	return len(target) > 0 && len(target) <= api.MaxTarget && !strings.Contains(target, "\x00")
}

// Spread says whether a file of that size may have its blocks at these rows.
func Spread(size int, runs []api.Run) bool {
	return size >= 0 && size <= api.MaxFile && rows.Rise(runs) && end(runs) <= (size+api.Size-1)/api.Size
}

// Filled says whether these may be the bytes of rows of a file of that size, over which the rows are spread: 512 for each index, and zeros behind the size.
func Filled(size int, runs []api.Run, data []byte) bool {
	if len(data) != rows.Count(runs)*api.Size {
		return false
	}
	behind := max(0, end(runs)*api.Size-size)
	return !slices.ContainsFunc(data[len(data)-behind:], notZero)
}

// end is the index behind the last row.
func end(runs []api.Run) int {
	if len(runs) == 0 {
		return 0
	}
	return runs[len(runs)-1].To
}

func notZero(x byte) bool { return x != 0 }
