package dump

import (
	"bytes"

	"vellum/api"
	"vellum/codec"
)

// magic is how every archive begins.
const magic = "vlmarch\x01"

// Bytes of the numbers in an archive, and of all that follows the last item.
const (
	kindBytes  = 1
	textBytes  = 2 // the length of a path or a target
	sizeBytes  = 8
	countBytes = 4 // of runs, of items
	indexBytes = 4
	runBytes   = 2 * indexBytes
	sumBytes   = 4
	endBytes   = kindBytes + countBytes + sumBytes
)

// writer makes an archive of items that come one after the other.
type writer struct {
	list  list
	count int
	bytes []byte
}

func newWriter() *writer { return &writer{list: newList(), bytes: []byte(magic)} }

// put lays an item behind those before it.
func (w *writer) put(item api.Item) api.Errno {
	if w.count == api.MaxItems {
		return api.ErrLong
	}
	if !w.list.takes(item) {
		return api.ErrArchive
	}
	w.count++
	if !w.over() {
		w.item(item)
	}
	return api.OK
}

// over says whether the archive is too long already. Then nothing more is laid; but the items are still looked at, as one that is not right is the worse fault.
func (w *writer) over() bool { return len(w.bytes) > api.MaxArchive-endBytes }

func (w *writer) archive() ([]byte, api.Errno) {
	if w.over() {
		return nil, api.ErrLong
	}
	w.number(api.KNone, kindBytes)
	w.number(w.count, countBytes)
	w.number(codec.Sum(w.bytes), sumBytes)
	return w.bytes, api.OK
}

func (w *writer) item(item api.Item) {
	w.number(item.Kind, kindBytes)
	w.text(item.Path)
	switch item.Kind {
	case api.KFile:
		w.content(item)
	case api.KLink, api.KName:
		w.text(item.Target)
	}
}

func (w *writer) content(file api.Item) {
	w.number(file.Size, sizeBytes)
	w.number(len(file.Runs), countBytes)
	for _, run := range file.Runs {
		w.number(run.From, indexBytes)
		w.number(run.To, indexBytes)
	}
	w.bytes = append(w.bytes, file.Data...)
}

// number lays a number, its lowest byte first.
func (w *writer) number(n, width int) {
	for i := range width {
		w.bytes = append(w.bytes, byte(n>>(8*i)))
	}
}

func (w *writer) text(s string) {
	w.number(len(s), textBytes)
	w.bytes = append(w.bytes, s...)
}

// reader takes what a writer has laid. It never fails: where the bytes are others than a writer lays, it ends with items of which no writer makes these bytes.
type reader struct {
	left []byte
}

// read tells the items of an archive, no more than may be; of what is no archive, some items or none.
func read(archive []byte) []api.Item {
	r := reader{archive}
	r.take(len(magic))
	var items []api.Item
	for kind := r.number(kindBytes); kind != api.KNone && len(items) < api.MaxItems; kind = r.number(kindBytes) {
		items = append(items, r.item(kind))
	}
	return items
}

func (r *reader) item(kind int) api.Item {
	item := api.Item{Kind: kind, Path: r.text()}
	switch kind {
	case api.KFile:
		item.Size = r.number(sizeBytes)
		item.Runs = r.runs()
		item.Data = bytes.Clone(r.take(indexes(item.Runs) * api.Size))
	case api.KLink, api.KName:
		item.Target = r.text()
	}
	return item
}

func (r *reader) runs() []api.Run {
	count := r.number(countBytes)
	runs := make([]api.Run, min(count, len(r.left)/runBytes))
	for i := range runs {
		runs[i].From = r.number(indexBytes)
		runs[i].To = r.number(indexBytes)
	}
	return runs
}

// number takes a number; a size above the greatest int comes out below 0, which no file has.
func (r *reader) number(width int) int {
	n := 0
	for i, x := range r.take(width) {
		n |= int(x) << (8 * i)
	}
	return n
}

func (r *reader) text() string { return string(r.take(r.number(textBytes))) }

// take takes so many bytes, or those that are left.
func (r *reader) take(n int) []byte {
	n = max(0, min(n, len(r.left)))
	taken := r.left[:n]
	r.left = r.left[n:]
	return taken
}
