package site

import (
	"bytes"
	"slices"
	"strconv"
	"strings"

	"vellum/api"
	"vellum/codec"
	"vellum/fs"
)

// Order is the order of paths: a slash counts less than any byte of a name.
func Order(a, b string) int {
	return strings.Compare(strings.ReplaceAll(a, "/", "\x00"), strings.ReplaceAll(b, "/", "\x00"))
}

// Same says whether two lists of items are the same; a nil list is an empty one.
func Same(a, b []api.Item) bool {
	return slices.EqualFunc(a, b, func(x, y api.Item) bool {
		return x.Kind == y.Kind && x.Path == y.Path && x.Target == y.Target && x.Size == y.Size && slices.Equal(x.Runs, y.Runs) && bytes.Equal(x.Data, y.Data)
	})
}

// Short is of items what a page can take.
func Short(items []api.Item) string {
	var text strings.Builder
	for _, x := range items {
		text.WriteString("{" + strconv.Itoa(x.Kind) + " " + strconv.Quote(x.Path) + " " + strconv.Quote(x.Target) + " " + strconv.Itoa(x.Size) + " [")
		for _, run := range x.Runs {
			text.WriteString(strconv.Itoa(run.From) + "-" + strconv.Itoa(run.To) + " ")
		}
		text.WriteString("] " + strconv.Itoa(len(x.Data)) + " bytes, sum " + strconv.Itoa(codec.Sum(x.Data)) + "} ")
	}
	return text.String()
}

// Put puts an item into a file system, by the table of P1504.
func Put(f *fs.FS, x api.Item) api.Errno {
	switch x.Kind {
	case 2:
		return f.Do(Mkdir(x.Path)).Err
	case 3:
		return f.Do(Symlink(x.Path, x.Target)).Err
	case 4:
		return f.Do(Link(x.Target, x.Path)).Err
	}
	if e := f.Do(Create(x.Path)).Err; e != api.OK {
		return e
	}
	if x.Size > 0 {
		if e := f.Do(Truncate(x.Path, x.Size)).Err; e != api.OK {
			return e
		}
	}
	at := 0 // of Data
	for _, r := range x.Runs {
		end := min(512*r.To, x.Size)
		for off := 512 * r.From; off < end; off += 65536 {
			from := at + off - 512*r.From
			if e := f.Do(Write(x.Path, off, string(x.Data[from:from+min(65536, end-off)]))).Err; e != api.OK {
				return e
			}
		}
		at += 512 * (r.To - r.From)
	}
	return api.OK
}
