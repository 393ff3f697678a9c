package check

import (
	"vellum/api"
	"vellum/codec"
)

// perBlock is how many nodes a block of the table has.
const perBlock = api.Size / api.NodeBytes

// rack is a block of the table.
type rack struct {
	first int // the number of its first node
	bytes []byte
}

// racked is what a rack holds: the empty node, where there is none or a broken one.
type racked struct {
	nodes  []api.Node
	faults []api.Fault
}

// table is phase 1.
func (im *image) table() []api.Fault {
	var firsts []int
	for first := 1; first <= im.layout.Nodes; first += perBlock {
		firsts = append(firsts, first)
	}
	var faults []api.Fault
	for i, r := range team(im.workers, firsts, im.rack, lookAtRack) {
		faults = append(faults, r.faults...)
		for k, n := range r.nodes {
			im.learn(firsts[i]+k, n)
		}
	}
	return faults
}

func (im *image) rack(first int) rack {
	return rack{first: first, bytes: im.block(tableStart + (first-1)/perBlock)}
}

func (im *image) learn(number int, n api.Node) {
	im.nodes[number] = n
	if n.Kind != api.KNone {
		im.numbers = append(im.numbers, number)
	}
}

func lookAtRack(r rack) racked {
	var found racked
	for i := range perBlock {
		n, e := codec.DecodeNode(r.bytes[i*api.NodeBytes : (i+1)*api.NodeBytes])
		found.nodes = append(found.nodes, n)
		found.faults = append(found.faults, slotFaults(r.first+i, n, e)...)
	}
	return found
}

// slotFaults are those of the slot of a node, of which the codec has told this.
func slotFaults(number int, n api.Node, e api.Errno) []api.Fault {
	if e != api.OK {
		return []api.Fault{{Kind: api.FNode, Node: number}}
	}
	var faults []api.Fault
	if number == api.Root && !isRoot(n) {
		faults = append(faults, api.Fault{Kind: api.FRoot, Node: number})
	}
	if !sizeFits(n) {
		faults = append(faults, api.Fault{Kind: api.FShape, Node: number, Other: n.Size})
	}
	return faults
}

func isRoot(n api.Node) bool { return n.Kind == api.KDir && n.Parent == api.Root }

// sizeFits says whether a node of its kind may have that size.
func sizeFits(n api.Node) bool {
	switch n.Kind {
	case api.KDir:
		return n.Size%api.Size == 0
	case api.KLink:
		return n.Size > 0 && n.Size <= api.MaxTarget
	}
	return true
}
