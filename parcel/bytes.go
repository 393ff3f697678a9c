package parcel

import (
	"bytes"

	"vellum/api"
	"vellum/codec"
	"vellum/rows"
)

// Bytes of the numbers in an archive and in a patch, and of all that follows the last item or change.
const (
	KindBytes  = 1
	TextBytes  = 2 // the length of a path or a target
	SizeBytes  = 8
	CountBytes = 4 // of rows, of items, of changes
	IndexBytes = 4
	SumBytes   = 4
	EndBytes   = KindBytes + CountBytes + SumBytes
)

// Writer lays numbers, texts and items one behind the other.
type Writer struct {
	Bytes []byte
}

// Number lays a number, its lowest byte first.
func (w *Writer) Number(n, width int) {
	for i := range width {
		w.Bytes = append(w.Bytes, byte(n>>(8*i)))
	}
}

// Text lays a text behind its length.
func (w *Writer) Text(s string) {
	w.Number(len(s), TextBytes)
	w.Bytes = append(w.Bytes, s...)
}

// Rows lays rows of indexes behind their number.
func (w *Writer) Rows(runs []api.Run) {
	w.Number(len(runs), CountBytes)
	for _, run := range runs {
		w.Number(run.From, IndexBytes)
		w.Number(run.To, IndexBytes)
	}
}

// Data lays the bytes of blocks.
func (w *Writer) Data(data []byte) { w.Bytes = append(w.Bytes, data...) }

// Item lays an item, from its kind on.
func (w *Writer) Item(item api.Item) {
	w.Number(item.Kind, KindBytes)
	w.Text(item.Path)
	switch item.Kind {
	case api.KFile:
		w.Number(item.Size, SizeBytes)
		w.Rows(item.Runs)
		w.Data(item.Data)
	case api.KLink, api.KName:
		w.Text(item.Target)
	}
}

// End lays what follows the last of so many items or changes: that there is none more, how many there are, and the sum of it all.
func (w *Writer) End(count int) {
	w.Number(0, KindBytes)
	w.Number(count, CountBytes)
	w.Number(codec.Sum(w.Bytes), SumBytes)
}

// Reader takes what a Writer has laid. It never fails: where the bytes are others than a Writer lays, it tells what no Writer makes these bytes of.
type Reader struct {
	left []byte
}

// NewReader is a reader of these bytes; what it tells is memory of its own.
func NewReader(b []byte) *Reader { return &Reader{b} }

// Number takes a number; one above the greatest int comes out below 0, where none is right.
func (r *Reader) Number(width int) int {
	n := 0
	for i, x := range r.take(width) {
		n |= int(x) << (8 * i)
	}
	return n
}

// Text takes a text and its length.
func (r *Reader) Text() string { return string(r.take(r.Number(TextBytes))) }

// Skip passes over so many bytes.
func (r *Reader) Skip(n int) { r.take(n) }

// Rows takes rows of indexes and their number, no more than there are bytes for.
func (r *Reader) Rows() []api.Run {
	count := r.Number(CountBytes)
	runs := make([]api.Run, min(count, len(r.left)/(2*IndexBytes)))
	for i := range runs {
		runs[i].From = r.Number(IndexBytes)
		runs[i].To = r.Number(IndexBytes)
	}
	return runs
}

// Data takes the bytes of the blocks at these rows.
func (r *Reader) Data(runs []api.Run) []byte {
	return bytes.Clone(r.take(rows.Count(runs) * api.Size))
}

// Item takes what follows the kind of an item.
func (r *Reader) Item(kind int) api.Item {
	item := api.Item{Kind: kind, Path: r.Text()}
	switch kind {
	case api.KFile:
		item.Size = r.Number(SizeBytes)
		item.Runs = r.Rows()
		item.Data = r.Data(item.Runs)
	case api.KLink, api.KName:
		item.Target = r.Text()
	}
	return item
}

// take takes so many bytes, or those that are left.
func (r *Reader) take(n int) []byte {
	n = max(0, min(n, len(r.left)))
	taken := r.left[:n]
	r.left = r.left[n:]
	return taken
}
