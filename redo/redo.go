// Package redo: what a transaction changes, and the record that the log holds of it: store lays it and salvage reads it too.
package redo

import (
	"slices"

	"vellum/api"
)

// Bytes of the numbers in a record.
const (
	countBytes = 2
	blockBytes = 4
)

// Content is what a block holds; two of them are held against each other by ==.
type Content [api.Size]byte

// Changes are new contents of blocks, by the blocks' numbers.
type Changes map[int]Content

// InOrder tells the blocks in rising order: so they are written, and so they stand in a record.
func (c Changes) InOrder() []int {
	var blocks []int
	for block := range c {
		blocks = append(blocks, block)
	}
	slices.Sort(blocks)
	return blocks
}

// Record is what the log holds of a transaction with these changes.
func (c Changes) Record() []byte {
	blocks := c.InOrder()
	record := laid(nil, len(blocks), countBytes)
	for _, block := range blocks {
		record = laid(record, block, blockBytes)
	}
	for _, block := range blocks {
		put := c[block]
		record = append(record, put[:]...)
	}
	return record
}

// Read lays a record's changes over those from before it, and says whether it is a transaction's record, of a store of so many blocks. If it is none, nothing is laid.
func (c Changes) Read(record []byte, blocks int) bool {
	numbers, contents, whole := parts(record)
	above := -1
	for _, block := range numbers {
		whole = whole && block > above && block < blocks
		above = block
	}
	if !whole {
		return false
	}
	for i, block := range numbers {
		c[block] = Content(contents[i*api.Size : (i+1)*api.Size])
	}
	return true
}

// parts are the numbers of a record's blocks and the bytes of them all, if it has just as many bytes as its count says.
func parts(record []byte) (numbers []int, contents []byte, whole bool) {
	if len(record) < countBytes {
		return nil, nil, false
	}
	count := taken(record[:countBytes])
	from := countBytes + count*blockBytes
	if count < 1 || count > api.MaxTx || len(record) != from+count*api.Size {
		return nil, nil, false
	}
	for number := range slices.Chunk(record[countBytes:from], blockBytes) {
		numbers = append(numbers, taken(number))
	}
	return numbers, record[from:], true
}

// laid puts a number behind a list, its lowest byte first.
func laid(list []byte, number, width int) []byte {
	for i := range width {
		list = append(list, byte(number>>(8*i)))
	}
	return list
}

// taken is the number that was laid there.
func taken(place []byte) int {
	number := 0
	for i, x := range place {
		number |= int(x) << (8 * i)
	}
	return number
}
