package salvage

import (
	"bytes"
	"slices"

	"vellum/api"
	"vellum/codec"
	"vellum/disk"
	"vellum/redo"
	"vellum/wal"
)

// logAt is the sector from which on the log lies.
const logAt = 1

// wreck is what has been read of a disk. It is read part by part, each out of those ahead of it here.
type wreck struct {
	layout  api.Layout
	blocks  []redo.Content // the home blocks, with the log's records laid upon them
	nodes   []api.Node     // by number: the empty one, where none is there
	owners  map[int]place  // by block: where the pointer stands that has it
	pages   [][]page       // by node: the data blocks that it keeps, by rising indexes
	texts   []string       // by node: that of a link; empty, if nothing can be made of it
	entries [][]api.Entry  // by directory: those that stand, by rising names
	named   []bool         // by node: an entry that stands names it
	placed  []bool         // by node: it has a name in the tree that is told
	names   []name

	losses []api.Loss
}

// newWreck is one of a right geometry, of which nothing has been read yet.
func newWreck(s api.Super) *wreck {
	l, _ := codec.Plan(s)
	numbers := l.Nodes + 1 // 0 is that of no node
	return &wreck{
		layout:  l,
		blocks:  make([]redo.Content, l.Blocks),
		nodes:   make([]api.Node, numbers),
		owners:  map[int]place{},
		pages:   make([][]page, numbers),
		texts:   make([]string, numbers),
		entries: make([][]api.Entry, numbers),
		named:   make([]bool, numbers),
		placed:  make([]bool, numbers),
	}
}

func (w *wreck) lose(l api.Loss) { w.losses = append(w.losses, l) }

// told are the losses as they are told: in their order, each once.
func (w *wreck) told() []api.Loss {
	slices.SortFunc(w.losses, func(a, b api.Loss) int { return slices.Compare(fields(a), fields(b)) })
	return slices.Compact(w.losses)
}

// fields are those of a loss, the weightiest first.
func fields(l api.Loss) []int { return []int{l.Kind, l.Node, l.Index, l.Block, l.Other} }

// readBlocks takes what the home sectors hold, and lays upon it what the log holds.
func (w *wreck) readBlocks(d *disk.Disk, s api.Super) {
	if super, _ := codec.EncodeSuper(s); !bytes.Equal(sector(d, superAt), super) {
		w.lose(api.Loss{Kind: api.LSuper})
	}
	for b := range w.blocks {
		w.blocks[b] = redo.Content(sector(d, w.layout.Home+b))
	}
	for b, content := range w.logged(d) {
		w.blocks[b] = content
	}
}

// logged is what the log's records change, up to the first that is none of a transaction: those behind it were made upon what it would have changed.
func (w *wreck) logged(d *disk.Disk) redo.Changes {
	_, records, e := wal.Open(d, logAt, w.layout.Log)
	if e != api.OK {
		w.lose(api.Loss{Kind: api.LLog, Other: int(e)})
	}
	changes := redo.Changes{}
	for i, record := range records {
		if !changes.Read(record, w.layout.Blocks) {
			w.lose(api.Loss{Kind: api.LRecord, Index: i, Other: len(records) - i})
			break
		}
	}
	return changes
}
