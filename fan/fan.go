// Package fan: the pointers of an indirect block, as span lays them and others read them.
package fan

import "vellum/api"

// width is how many bytes of the block a pointer takes, the lowest first.
const width = api.Size / api.Fan

// Row are the pointers of an indirect block.
type Row [api.Fan]int

// Read tells the pointers of a block's 512 bytes.
func Read(data []byte) Row {
	var r Row
	for i := range r {
		for k := range width {
			r[i] |= int(data[i*width+k]) << (8 * k)
		}
	}
	return r
}

// Bytes are the block with these pointers.
func (r Row) Bytes() []byte {
	data := make([]byte, api.Size)
	for i, pointer := range r {
		for k := range width {
			data[i*width+k] = byte(pointer >> (8 * k))
		}
	}
	return data
}

// Reach is how many indexes a pointer leads to through so many indirect blocks, one behind the other.
func Reach(depth int) int {
	indexes := 1
	for range depth {
		indexes *= api.Fan
	}
	return indexes
}
