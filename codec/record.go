package codec

import "vellum/api"

// Bytes of the numbers on the disk.
const (
	u8  = 1
	u16 = 2
	u32 = 4
	u64 = 8
)

// writer lays the fields of a record behind one another.
type writer struct {
	bytes []byte
}

// number lays a number that is not below 0, its lowest byte first.
func (w *writer) number(n, width int) {
	for range width {
		w.bytes = append(w.bytes, byte(n))
		n >>= 8
	}
}

func (w *writer) text(s string) { w.bytes = append(w.bytes, s...) }

// zerosTo fills up to that place.
func (w *writer) zerosTo(place int) {
	w.bytes = append(w.bytes, make([]byte, place-len(w.bytes))...)
}

// summed ends the record with the sum of all that was laid.
func (w *writer) summed() []byte {
	w.number(Sum(w.bytes), u32)
	return w.bytes
}

// reader takes the fields of a record one behind the other. Where they are not as a writer lays them it gives up by panic: so a decoder names its fields in a row, and asks about none of them in between.
type reader struct {
	bytes []byte
	place int
}

// summedReader reads what lies ahead of the sum, which must be right. It never sees the sum: a field that is too long runs over the end.
func summedReader(record []byte) *reader {
	body := len(record) - u32
	sum := reader{bytes: record[body:]}
	must(sum.number(u32) == Sum(record[:body]))
	return &reader{bytes: record[:body]}
}

func (r *reader) take(n int) []byte {
	must(n <= len(r.bytes)-r.place)
	from := r.place
	r.place += n
	return r.bytes[from:r.place]
}

// number takes a number; a u64 above the greatest int comes out below 0, where no field fits.
func (r *reader) number(width int) int {
	n := 0
	for i, x := range r.take(width) {
		n |= int(x) << (8 * i)
	}
	return n
}

func (r *reader) text(n int) string { return string(r.take(n)) }

// zerosTo passes over what must be zeros up to that place.
func (r *reader) zerosTo(place int) {
	must(empty(r.take(place - r.place)))
}

// must gives up, unless it holds; the decoder at the face catches it.
func must(holds bool) {
	if !holds {
		panic(api.ErrCorrupt)
	}
}

// empty says whether a record has no byte but zeros.
func empty(b []byte) bool {
	for _, x := range b {
		if x != 0 {
			return false
		}
	}
	return true
}
