package store

import (
	"slices"

	"vellum/api"
)

// Bytes of the numbers in a record.
const (
	countBytes = 2
	blockBytes = 4
)

// content is what a block holds; two of them are held against each other by ==.
type content [api.Size]byte

// changes are new contents of blocks, by the blocks' numbers.
type changes map[int]content

// inOrder tells the blocks in rising order: so they are written, and so they stand in a record.
func (c changes) inOrder() []int {
	var blocks []int
	for block := range c {
		blocks = append(blocks, block)
	}
	slices.Sort(blocks)
	return blocks
}

// record is what the log holds of a transaction with these changes.
func (c changes) record() []byte {
	blocks := c.inOrder()
	record := laid(nil, len(blocks), countBytes)
	for _, block := range blocks {
		record = laid(record, block, blockBytes)
	}
	for _, block := range blocks {
		put := c[block]
		record = append(record, put[:]...)
	}
	return record
}

// sectorsOf is how many sectors of the log a record takes.
func sectorsOf(record []byte) int { return (len(record) + api.DataMax - 1) / api.DataMax }

// read lays a record's changes over those from before it. Where it is no transaction's record, of a store of so many blocks, it gives up by panic.
func (c changes) read(record []byte, blocks int) {
	r := reader{record}
	count := r.number(countBytes)
	must(count >= 1 && count <= api.MaxTx)
	named := make([]int, count)
	above := -1
	for i := range named {
		block := r.number(blockBytes)
		must(block > above && block < blocks)
		named[i], above = block, block
	}
	for _, block := range named {
		c[block] = content(r.take(api.Size))
	}
	must(len(r.left) == 0)
}

// laid puts a number behind a list, its lowest byte first.
func laid(list []byte, number, width int) []byte {
	for i := range width {
		list = append(list, byte(number>>(8*i)))
	}
	return list
}

// reader takes the parts of a record one behind the other. A record that is too short for them is given up by panic.
type reader struct {
	left []byte
}

func (r *reader) take(n int) []byte {
	must(n <= len(r.left))
	taken := r.left[:n]
	r.left = r.left[n:]
	return taken
}

func (r *reader) number(width int) int {
	number := 0
	for i, x := range r.take(width) {
		number |= int(x) << (8 * i)
	}
	return number
}

// must gives up, unless it holds; Open catches it.
func must(holds bool) {
	if !holds {
		panic(api.ErrCorrupt)
	}
}
