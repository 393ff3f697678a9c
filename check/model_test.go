package check_test

import (
	"slices"

	"vellum/api"
	"vellum/codec"
)

// plain says the words of the chapter over the blocks of a plate, one phase behind the other.
type plain struct {
	*plate
	nodes   map[int]api.Node
	owner   map[int]int    // by block: the node
	count   map[int]int    // by node: the blocks that it owns
	data    map[[2]int]int // by node and index: the data block that it owns there
	entries map[int][]api.Entry
	faults  []api.Fault
}

// plainly is the report on a plate.
func plainly(p *plate) api.Report {
	m := &plain{plate: p, nodes: map[int]api.Node{}, owner: map[int]int{}, count: map[int]int{}, data: map[[2]int]int{}, entries: map[int][]api.Entry{}}
	for i, phase := range []func(){m.table, m.pointers, m.bitmaps, m.contents, m.tree} {
		phase()
		if len(m.faults) > 0 {
			return api.Report{Phase: i + 1, Faults: m.sorted()}
		}
	}
	r := api.Report{Used: len(m.owner)}
	for _, n := range m.nodes {
		switch {
		case n.Kind == api.KDir:
			r.Dirs++
		case n.Kind == api.KLink:
			r.Links++
		case n.Links == 0:
			r.Orphans++
		default:
			r.Files++
		}
	}
	return r
}

func (m *plain) tell(kind, node, index, block, other int) {
	m.faults = append(m.faults, api.Fault{Kind: kind, Node: node, Index: index, Block: block, Other: other})
}

func (m *plain) sorted() []api.Fault {
	row := func(f api.Fault) []int { return []int{f.Kind, f.Node, f.Index, f.Block, f.Other} }
	slices.SortFunc(m.faults, func(a, b api.Fault) int { return slices.Compare(row(a), row(b)) })
	return m.faults
}

func zero(data []byte) bool {
	for _, b := range data {
		if b > 0 {
			return false
		}
	}
	return true
}

func (m *plain) table() {
	for k := 1; k <= m.Nodes; k++ {
		n, e := codec.DecodeNode(m.Slot(k))
		if e != api.OK {
			m.tell(api.FNode, k, 0, 0, 0)
			continue
		}
		if !zero(m.Slot(k)) {
			m.nodes[k] = n
		}
		if k == 1 && (n.Kind != api.KDir || n.Parent != 1) {
			m.tell(api.FRoot, 1, 0, 0, 0)
		}
		if n.Kind == api.KDir && n.Size%512 > 0 || n.Kind == api.KLink && (n.Size < 1 || n.Size > 255) {
			m.tell(api.FShape, k, 0, 0, n.Size)
		}
	}
}

// met says whether a pointer's block is to be gone into.
func (m *plain) met(k, index, pointer, depth int) bool {
	if pointer == 0 {
		return false
	}
	if pointer < m.Data || pointer > m.Blocks-1 {
		m.tell(api.FPointer, k, index, pointer, depth)
		return false
	}
	if _, there := m.owner[pointer]; there {
		m.tell(api.FTwice, k, index, pointer, depth)
		return false
	}
	m.owner[pointer] = k
	m.count[k]++
	if depth > 0 {
		if zero(m.Held[pointer]) {
			m.tell(api.FBare, k, index, pointer, depth)
		}
		return true
	}
	m.data[[2]int{k, index}] = pointer
	if 512*index >= m.nodes[k].Size {
		m.tell(api.FBeyond, k, index, pointer, 0)
	}
	return false
}

// pointer is the one at a place of an indirect block.
func (m *plain) pointer(block, place int) int {
	b := m.Held[block][4*place:]
	return int(b[0]) + int(b[1])<<8 + int(b[2])<<16 + int(b[3])<<24
}

func (m *plain) pointers() {
	for k := 1; k <= m.Nodes; k++ {
		n, there := m.nodes[k]
		if !there {
			continue
		}
		for i, pointer := range n.Direct {
			m.met(k, i, pointer, 0)
		}
		if m.met(k, 10, n.Single, 1) {
			for i := range 128 {
				m.met(k, 10+i, m.pointer(n.Single, i), 0)
			}
		}
		if m.met(k, 138, n.Double, 2) {
			for i := range 128 {
				if leaf := m.pointer(n.Double, i); m.met(k, 138+128*i, leaf, 1) {
					for j := range 128 {
						m.met(k, 138+128*i+j, m.pointer(leaf, j), 0)
					}
				}
			}
		}
		if m.count[k] != n.Owned {
			m.tell(api.FOwned, k, 0, 0, m.count[k])
		}
		if block, there := m.data[[2]int{k, n.Size / 512}]; there && n.Size%512 > 0 && !zero(m.Held[block][n.Size%512:]) {
			m.tell(api.FTail, k, n.Size/512, block, 0)
		}
	}
}

func (m *plain) bitmaps() {
	for bit := range 4096 {
		_, owned := m.owner[bit]
		if now := m.Held[0][bit/8] >> (bit % 8) & 1; (now == 1) != (owned || bit < m.Data) {
			m.tell(api.FBlockBit, 0, 0, bit, int(now))
		}
		_, there := m.nodes[bit+1]
		if now := m.Held[1][bit/8] >> (bit % 8) & 1; (now == 1) != there {
			m.tell(api.FNodeBit, bit+1, 0, 0, int(now))
		}
	}
}

func (m *plain) contents() {
	for k, n := range m.nodes {
		if n.Kind == api.KDir {
			m.directory(k, n)
		}
		if n.Kind == api.KLink {
			block, there := m.data[[2]int{k, 0}]
			if !there || slices.Contains(m.Held[block][:n.Size], 0) {
				m.tell(api.FText, k, 0, 0, 0)
			}
		}
	}
}

func (m *plain) directory(k int, n api.Node) {
	for i := 0; 512*i < n.Size; i++ {
		block, there := m.data[[2]int{k, i}]
		if !there {
			m.tell(api.FHole, k, i, 0, 0)
			continue
		}
		if 512*(i+1) == n.Size && zero(m.Held[block]) {
			m.tell(api.FTrail, k, 0, 0, 0)
		}
		for s := range 8 {
			m.dirSlot(k, 8*i+s, m.Held[block][64*s:64*s+64])
		}
	}
}

func (m *plain) dirSlot(k, slot int, record []byte) {
	x, e := codec.DecodeEntry(record)
	if e != api.OK {
		m.tell(api.FEntry, k, slot, 0, 0)
		return
	}
	if zero(record) {
		return
	}
	for _, lower := range m.entries[k] {
		if lower.Name == x.Name {
			m.tell(api.FName, k, slot, 0, 0)
			break
		}
	}
	x.Slot = slot
	m.entries[k] = append(m.entries[k], x)
	if n, there := m.nodes[x.Node]; !there || n.Kind != x.Kind {
		m.tell(api.FTarget, k, slot, 0, x.Node)
	}
}

// leads are the directories to which a way leads from that one, which is told too.
func (m *plain) leads(from int, seen map[int]int) {
	seen[from]++
	for _, x := range m.entries[from] {
		if x.Kind == api.KDir && seen[x.Node] == 0 {
			m.leads(x.Node, seen)
		}
	}
}

func (m *plain) tree() {
	seen := map[int]int{}
	m.leads(1, seen)
	for k, n := range m.nodes {
		var names []int // the directories in which they are
		for in := range m.nodes {
			for _, x := range m.entries[in] {
				if x.Node == k {
					names = append(names, in)
				}
			}
		}
		switch n.Kind {
		case api.KFile:
			if len(names) != n.Links {
				m.tell(api.FLinks, k, 0, 0, len(names))
			}
		case api.KLink:
			m.hangingLink(k, n, names)
		case api.KDir:
			m.hangingDir(k, n, names, seen[k] > 0)
		}
	}
}

func (m *plain) hangingLink(k int, n api.Node, names []int) {
	if len(names) == 0 {
		m.tell(api.FLost, k, 0, 0, 0)
	} else if len(names) != 1 || n.Links != 1 {
		m.tell(api.FLinks, k, 0, 0, len(names))
	}
}

func (m *plain) hangingDir(k int, n api.Node, names []int, reached bool) {
	links := 2
	for _, x := range m.entries[k] {
		if x.Kind == api.KDir {
			links++
		}
	}
	if links != n.Links {
		m.tell(api.FLinks, k, 0, 0, links)
	}
	if len(names) > 1 || k == 1 && len(names) > 0 {
		m.tell(api.FParent, k, 0, 0, len(names))
	} else if len(names) == 1 && names[0] != n.Parent {
		m.tell(api.FParent, k, 0, 0, 0)
	}
	if len(names) == 0 && k != 1 {
		m.tell(api.FLost, k, 0, 0, 0)
	}
	if len(names) > 0 && !reached {
		m.tell(api.FLoop, k, 0, 0, 0)
	}
}
