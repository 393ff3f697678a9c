package salvage

import (
	"iter"
	"slices"

	"vellum/api"
	"vellum/codec"
	"vellum/fan"
)

// place is where a pointer stands; two of them are held against each other by ==.
type place struct {
	node  int
	index int // the least one that lies behind it
	depth int // of the indirect blocks behind it; 0: it names a data block
}

// page is a data block of a node.
type page struct {
	index, block int
}

// readTable takes the nodes that are there.
func (w *wreck) readTable() {
	for k := 1; k <= w.layout.Nodes; k++ {
		block, from := tableStart+(k-1)/perRack, (k-1)%perRack*api.NodeBytes
		n, e := codec.DecodeNode(w.blocks[block][from : from+api.NodeBytes])
		if e != api.OK {
			w.lose(api.Loss{Kind: api.LNode, Node: k})
		}
		w.nodes[k] = n
	}
}

// readContents goes through the pointers of all nodes. Who has a block hangs on the order: whoever names it first.
func (w *wreck) readContents() {
	for k, n := range w.nodes {
		w.readPages(k, n.Size)
		w.cutTail(k, n.Size)
		switch n.Kind {
		case api.KDir:
			w.countHoles(k, n.Size)
		case api.KLink:
			w.readText(k, n.Size)
		}
	}
}

// pointers tells those of a node that are not 0, each with its place. An indirect block is gone into if the pointer to it has it; who goes through the pointers has settled that by then.
func (w *wreck) pointers(node int) iter.Seq2[place, int] {
	n := w.nodes[node]
	return func(yield func(place, int) bool) {
		for i, block := range n.Direct {
			if !w.follow(place{node, i, 0}, block, yield) {
				return
			}
		}
		if w.follow(place{node, api.Direct, 1}, n.Single, yield) {
			w.follow(place{node, api.Direct + api.Fan, 2}, n.Double, yield)
		}
	}
}

// follow tells a pointer, and then those to which it leads; it says whether more are wanted.
func (w *wreck) follow(at place, block int, yield func(place, int) bool) bool {
	if block == 0 {
		return true
	}
	if !yield(at, block) {
		return false
	}
	if at.depth == 0 || w.owners[block] != at {
		return true
	}
	for i, next := range fan.Read(w.blocks[block][:]) {
		below := place{at.node, at.index + i*fan.Reach(at.depth-1), at.depth - 1}
		if !w.follow(below, next, yield) {
			return false
		}
	}
	return true
}

// readPages gives a node the blocks that its pointers name and nobody has, and keeps those that lie below its size.
func (w *wreck) readPages(node, size int) {
pointers:
	for at, block := range w.pointers(node) {
		_, taken := w.owners[block]
		switch {
		case block < w.layout.Data || block >= w.layout.Blocks:
			w.lose(api.Loss{Kind: api.LPointer, Node: node, Index: at.index, Block: block, Other: at.depth})
			continue pointers
		case taken:
			w.lose(api.Loss{Kind: api.LTwice, Node: node, Index: at.index, Block: block, Other: at.depth})
			continue pointers
		}
		w.owners[block] = at
		switch {
		case at.depth > 0:
		case at.index*api.Size >= size:
			w.lose(api.Loss{Kind: api.LBeyond, Node: node, Index: at.index, Block: block})
		default:
			w.pages[node] = append(w.pages[node], page{at.index, block})
		}
	}
}

// cutTail makes zeros of what lies behind the size in the page within which it ends: nobody else has that block.
func (w *wreck) cutTail(node, size int) {
	pages := w.pages[node]
	if len(pages) == 0 {
		return
	}
	last := pages[len(pages)-1] // no page lies behind the size
	if last.index != size/api.Size {
		return
	}
	tail := w.blocks[last.block][size%api.Size:]
	if slices.ContainsFunc(tail, func(x byte) bool { return x != 0 }) {
		w.lose(api.Loss{Kind: api.LTail, Node: node, Index: last.index, Block: last.block})
		clear(tail)
	}
}

// countHoles tells how many indexes of a directory have no page.
func (w *wreck) countHoles(dir, size int) {
	if holes := (size+api.Size-1)/api.Size - len(w.pages[dir]); holes > 0 {
		w.lose(api.Loss{Kind: api.LHole, Node: dir, Other: holes})
	}
}

// readText takes the text of a link, if it is one.
func (w *wreck) readText(link, size int) {
	pages := w.pages[link]
	if size > api.MaxTarget || len(pages) == 0 || slices.Contains(w.blocks[pages[0].block][:size], 0) {
		w.lose(api.Loss{Kind: api.LText, Node: link})
		return
	}
	w.texts[link] = string(w.blocks[pages[0].block][:size])
}
