package check

import (
	"vellum/api"
	"vellum/store"
)

// The home blocks that every image has.
const (
	blockBitmap = 0
	nodeBitmap  = 1
	tableStart  = 2
)

// image is what a transaction sees, with what the phases have learnt of it: what one has found right the later ones take as such. The goroutine that called Run alone changes it, and not while workers look into it.
type image struct {
	tx      *store.Tx
	layout  api.Layout
	workers int
	refused api.Errno // of the transaction, though it has no reason to

	nodes   []api.Node    // by number: the empty one, where there is none
	numbers []int         // of the nodes, rising
	claims  [][]claim     // by the number of the node whose pointers they are
	owned   []bool        // by block
	entries [][]api.Entry // by the number of the directory
}

func newImage(tx *store.Tx, workers int) *image {
	l := tx.Layout()
	return &image{
		tx:      tx,
		layout:  l,
		workers: workers,
		nodes:   make([]api.Node, l.Nodes+1),
		claims:  make([][]claim, l.Nodes+1),
		owned:   make([]bool, l.Blocks),
		entries: make([][]api.Entry, l.Nodes+1),
	}
}

// block asks the transaction.
func (im *image) block(number int) []byte {
	data, e := im.tx.Get(number)
	if e != api.OK {
		im.refused = e
		return make([]byte, api.Size)
	}
	return data
}
