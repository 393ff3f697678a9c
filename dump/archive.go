package dump

import (
	"vellum/api"
	"vellum/parcel"
)

// magic is how every archive begins.
const magic = "vlmarch\x01"

// writer makes an archive of items that come one after the other.
type writer struct {
	list  list
	count int
	parcel.Writer
}

func newWriter() *writer {
	return &writer{list: newList(), Writer: parcel.Writer{Bytes: []byte(magic)}}
}

// put lays an item behind those before it.
func (w *writer) put(item api.Item) api.Errno {
	if w.count == api.MaxItems {
		return api.ErrLong
	}
	if !w.list.takes(item) {
		return api.ErrArchive
	}
	w.count++
	if !w.over() {
		w.Item(item)
	}
	return api.OK
}

// over says whether the archive is too long already. Then nothing more is laid; but the items are still looked at, as one that is not right is the worse fault.
func (w *writer) over() bool { return len(w.Bytes) > api.MaxArchive-parcel.EndBytes }

func (w *writer) archive() ([]byte, api.Errno) {
	if w.over() {
		return nil, api.ErrLong
	}
	w.End(w.count)
	return w.Bytes, api.OK
}

// read tells the items of an archive, no more than may be; of what is no archive, some items or none.
func read(archive []byte) []api.Item {
	r := parcel.NewReader(archive)
	r.Skip(len(magic))
	var items []api.Item
	for kind := r.Number(parcel.KindBytes); kind != api.KNone && len(items) < api.MaxItems; kind = r.Number(parcel.KindBytes) {
		items = append(items, r.Item(kind))
	}
	return items
}
