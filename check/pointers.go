package check

import (
	"slices"

	"vellum/api"
	"vellum/fan"
)

// What a pointer has of the block that it names.
const (
	owns    = iota
	outside // it names no data block
	late    // another pointer has named it before
)

// claim is a pointer that was met: it is not 0.
type claim struct {
	index int // the least one that lies behind it
	depth int // of the indirect blocks behind it; 0: it names a data block
	block int
	right int
	bare  bool // it names an indirect block in which no pointer was met
}

// page is a data block of a node.
type page struct {
	index, block int
	bytes        []byte
}

// sheaf is a node with what is to be looked at of it: in phase 2 its claims, and the page in which its size ends; in phase 4 all its pages.
type sheaf struct {
	number int
	node   api.Node
	claims []claim
	pages  []page
}

// pointers is phase 2. Who owns a block, and so which blocks are gone into, hangs on the order in which the pointers are met: the one who reads meets them all.
func (im *image) pointers() []api.Fault {
	return slices.Concat(team(im.workers, im.numbers, im.charted, lookAtClaims)...)
}

// charted is a node with its claims.
func (im *image) charted(number int) sheaf {
	s := sheaf{number: number, node: im.nodes[number]}
	for i, pointer := range s.node.Direct {
		im.meet(&s, claim{index: i, depth: 0, block: pointer})
	}
	im.meet(&s, claim{index: api.Direct, depth: 1, block: s.node.Single})
	im.meet(&s, claim{index: api.Direct + api.Fan, depth: 2, block: s.node.Double})
	im.claims[number] = s.claims
	s.pages = im.lastPage(s)
	return s
}

// meet takes down a pointer of a node, and then those to which it leads.
func (im *image) meet(s *sheaf, c claim) {
	if c.block == 0 {
		return
	}
	c.right = im.rightTo(c.block)
	place := len(s.claims)
	s.claims = append(s.claims, c)
	if c.depth == 0 || c.right != owns {
		return
	}
	for i, pointer := range fan.Read(im.block(c.block)) {
		im.meet(s, claim{index: c.index + i*fan.Reach(c.depth-1), depth: c.depth - 1, block: pointer})
	}
	s.claims[place].bare = len(s.claims) == place+1
}

// rightTo is what a pointer has of a block: the first one that names it owns it from now on.
func (im *image) rightTo(block int) int {
	switch {
	case block < im.layout.Data || block >= im.layout.Blocks:
		return outside
	case im.owned[block]:
		return late
	}
	im.owned[block] = true
	return owns
}

// lastPage is the page within which the size of a node ends; none, if the size ends with a page, or in a hole.
func (im *image) lastPage(s sheaf) []page {
	if s.node.Size%api.Size == 0 {
		return nil
	}
	for _, c := range s.claims {
		if c.depth == 0 && c.right == owns && c.index == s.node.Size/api.Size {
			return []page{im.page(c)}
		}
	}
	return nil
}

func (im *image) page(c claim) page {
	return page{index: c.index, block: c.block, bytes: im.block(c.block)}
}

func lookAtClaims(s sheaf) []api.Fault {
	var faults []api.Fault
	owned := 0
	for _, c := range s.claims {
		if kind := c.fault(s.node.Size); kind != 0 {
			faults = append(faults, api.Fault{Kind: kind, Node: s.number, Index: c.index, Block: c.block, Other: c.depth})
		}
		if c.right == owns {
			owned++
		}
	}
	if owned != s.node.Owned {
		faults = append(faults, api.Fault{Kind: api.FOwned, Node: s.number, Other: owned})
	}
	for _, p := range s.pages {
		if !blank(p.bytes[s.node.Size%api.Size:]) {
			faults = append(faults, api.Fault{Kind: api.FTail, Node: s.number, Index: p.index, Block: p.block})
		}
	}
	return faults
}

// fault is the kind of fault that a claim is in a node of that size; 0, if it is none.
func (c claim) fault(size int) int {
	switch {
	case c.right == outside:
		return api.FPointer
	case c.right == late:
		return api.FTwice
	case c.bare:
		return api.FBare
	case c.depth == 0 && c.index*api.Size >= size:
		return api.FBeyond
	}
	return 0
}

// blank says whether all bytes are 0.
func blank(bytes []byte) bool {
	return !slices.ContainsFunc(bytes, func(b byte) bool { return b != 0 })
}
