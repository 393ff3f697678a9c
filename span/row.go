package span

import "vellum/api"

// pointerBytes is how many bytes of an indirect block a pointer takes, the lowest first.
const pointerBytes = api.Size / api.Fan

// row are the pointers of an indirect block.
type row [api.Fan]int

func readRow(data []byte) row {
	var r row
	for i := range r {
		for k := range pointerBytes {
			r[i] |= int(data[i*pointerBytes+k]) << (8 * k)
		}
	}
	return r
}

func (r row) bytes() []byte {
	data := make([]byte, api.Size)
	for i, pointer := range r {
		for k := range pointerBytes {
			data[i*pointerBytes+k] = byte(pointer >> (8 * k))
		}
	}
	return data
}
