package node

import (
	"vellum/api"
	"vellum/codec"
	"vellum/halt"
)

const (
	tableStart = 2                        // the home block of node 1
	perBlock   = api.Size / api.NodeBytes // nodes of a block
)

// slot is a node's place in the table, with its block as the transaction sees it.
type slot struct {
	node  int
	block int
	data  []byte // of the whole block: a slot is put with its neighbours
}

// through goes through the slots of the nodes first to last, and does with each what it is handed. A block is asked for once.
func (t *Table) through(first, last int, do func(slot)) {
	var s slot
	for node := first; node <= last; node++ {
		if block := tableStart + (node-1)/perBlock; block != s.block {
			s.block, s.data = block, halt.Got(t.Get(block))
		}
		s.node = node
		do(s)
	}
}

// bytes are those of the slot alone; what is written there is written in its block.
func (s slot) bytes() []byte {
	from := (s.node - 1) % perBlock * api.NodeBytes
	return s.data[from : from+api.NodeBytes]
}

// told is the node that stands in the slot: the empty one, where none does.
func (s slot) told() api.Node {
	n, e := codec.DecodeNode(s.bytes())
	halt.If(e != api.OK, api.ErrCorrupt)
	return n
}

// held is the node that the slot must hold.
func (s slot) held() api.Node {
	n := s.told()
	halt.If(n.Kind == api.KNone, api.ErrNode)
	return n
}

// fill lays a record into a slot, and puts the block.
func (t *Table) fill(s slot, record []byte) {
	copy(s.bytes(), record)
	halt.On(t.Put(s.block, s.data))
}

// empty frees the number of the node that the slot holds, and then the slot.
func (t *Table) empty(s slot) {
	halt.If(s.held().Owned != 0, api.ErrOwned)
	halt.On(t.DropNode(s.node))
	t.fill(s, make([]byte, api.NodeBytes))
}

// numbers are those of the nodes of a kind, or of all nodes.
func (t *Table) numbers(kind int) []int {
	var numbers []int
	t.through(1, t.Layout().Nodes, func(s slot) {
		n := s.told()
		if n.Kind != api.KNone && (kind == api.KNone || kind == n.Kind) {
			numbers = append(numbers, s.node)
		}
	})
	return numbers
}

// mayAsk gives up where the transaction may not be asked, or the table has no such node.
func (t *Table) mayAsk(node int) {
	halt.On(t.State())
	halt.If(!t.has(node), api.ErrRange)
}

func (t *Table) has(node int) bool { return node >= 1 && node <= t.Layout().Nodes }

// newborn is a node of that kind as it is made.
func (t *Table) newborn(kind, parent int) api.Node {
	halt.If(kind < api.KFile || kind > api.KLink, api.ErrArg)
	if kind == api.KDir {
		halt.If(!t.has(parent), api.ErrRange)
		return api.Node{Kind: kind, Links: 2, Parent: parent}
	}
	halt.If(parent != 0, api.ErrArg)
	return api.Node{Kind: kind}
}

// encoded is a node's record. The empty node has one too, but may not be saved.
func encoded(n api.Node) []byte {
	halt.If(n.Kind == api.KNone, api.ErrField)
	return halt.Got(codec.EncodeNode(n))
}
