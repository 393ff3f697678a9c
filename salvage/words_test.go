package salvage_test

import (
	"encoding/binary"
	"fmt"
	"maps"
	"slices"
	"strings"

	"vellum/api"
	"vellum/codec"
	"vellum/disk"
	"vellum/site"
	"vellum/wal"
)

// The chapter's words about Guess and Items, one by one.

// lengthByWords is what is wrong with the length of an image.
func lengthByWords(image []byte) api.Errno {
	switch {
	case len(image)%512 != 0:
		return api.ErrLength
	case len(image) == 0 || len(image) > 512*2048:
		return api.ErrSectors
	}
	return api.OK
}

// guessByWords holds all right geometries against each other.
func guessByWords(image []byte) (api.Super, api.Errno) {
	if e := lengthByWords(image); e != api.OK {
		return api.Super{}, e
	}
	n := len(image) / 512
	if s, e := codec.DecodeSuper(image[:512]); e == api.OK && s.Sectors == n {
		return s, api.OK
	}
	counts := make([]int, 4*n) // by slot: 1, if it counts
	for at := range counts {
		if node, e := codec.DecodeNode(image[128*at : 128*at+128]); e == api.OK && node.Kind != 0 {
			counts[at] = 1
		}
	}
	type candidate struct{ uncounted, nodes, log int }
	var list []candidate
	for log := range 300 {
		for nodes := range 1100 {
			l, e := codec.Plan(api.Super{Sectors: n, Log: log, Nodes: nodes})
			if e != api.OK {
				continue
			}
			table := 4 * (l.Home + 2)
			root, _ := codec.DecodeNode(image[128*table : 128*table+128])
			if root.Kind != 2 || root.Parent != 1 {
				continue
			}
			c := candidate{0, nodes, log}
			for _, x := range counts[table : table+nodes] {
				c.uncounted -= x
			}
			list = append(list, c)
		}
	}
	if len(list) == 0 {
		return api.Super{}, api.ErrCorrupt
	}
	best := slices.MinFunc(list, func(a, b candidate) int {
		return slices.Compare([]int{a.uncounted, a.nodes, a.log}, []int{b.uncounted, b.nodes, b.log})
	})
	return api.Super{Sectors: n, Log: best.log, Nodes: best.nodes}, api.OK
}

// plain is what the words make of an image of a right geometry.
type plain struct {
	api.Layout
	home   [][]byte               // by block
	nodes  map[int]api.Node       // that are there
	owner  map[int]int            // by block that was named: the node
	data   map[int]map[int][]byte // by node and index
	mute   map[int]bool           // links of which nothing is made
	stand  map[int][]api.Entry
	named  map[int]bool
	placed map[int]bool
	given  map[string]int // by name: the node
	losses map[api.Loss]bool
}

// itemsByWords is what Items answers.
func itemsByWords(image []byte, s api.Super) ([]api.Item, []api.Loss, api.Errno) {
	if e := lengthByWords(image); e != api.OK {
		return nil, nil, e
	}
	if s.Sectors == 0 && s.Log == 0 && s.Nodes == 0 {
		guess, e := guessByWords(image)
		if e != api.OK {
			return nil, nil, e
		}
		s = guess
	}
	l, e := codec.Plan(s)
	if e != api.OK || s.Sectors != len(image)/512 {
		return nil, nil, api.ErrGeometry
	}
	m := readByWords(image, s, l)
	m.entries()
	m.tree()
	items := m.items()
	losses := slices.SortedFunc(maps.Keys(m.losses), func(a, b api.Loss) int {
		return strings.Compare(fmt.Sprintf("%012d %012d %012d %012d %012d", a.Kind, a.Node, a.Index, a.Block, a.Other), fmt.Sprintf("%012d %012d %012d %012d %012d", b.Kind, b.Node, b.Index, b.Block, b.Other))
	})
	return items, losses, api.OK
}

// readByWords reads up to the contents of the nodes.
func readByWords(image []byte, s api.Super, l api.Layout) *plain {
	m := &plain{
		Layout: l, nodes: map[int]api.Node{}, owner: map[int]int{}, data: map[int]map[int][]byte{}, mute: map[int]bool{}, stand: map[int][]api.Entry{},
		named: map[int]bool{}, placed: map[int]bool{}, given: map[string]int{}, losses: map[api.Loss]bool{},
	}
	for at := l.Home; at < s.Sectors; at++ {
		m.home = append(m.home, slices.Clone(image[512*at:512*at+512]))
	}
	super, _ := codec.EncodeSuper(s)
	if string(super) != string(image[:512]) {
		m.lose(api.LSuper, 0, 0, 0, 0)
	}
	d, _ := disk.Load(image)
	_, records, e := wal.Open(d, 1, l.Log)
	if e != api.OK {
		m.lose(api.LLog, 0, 0, 0, int(e))
		records = nil
	}
	for i, record := range records {
		if !m.lay(record) {
			m.lose(api.LRecord, 0, i, 0, len(records)-i)
			break
		}
	}
	for k := 1; k <= l.Nodes; k++ {
		slot := m.home[2+(k-1)/4][128*((k-1)%4):][:128]
		if n, e := codec.DecodeNode(slot); e != api.OK {
			m.lose(api.LNode, k, 0, 0, 0)
		} else if n.Kind != 0 {
			m.nodes[k] = n
		}
	}
	for k := 1; k <= l.Nodes; k++ {
		if n, there := m.nodes[k]; there {
			m.content(k, n)
		}
	}
	return m
}

func (m *plain) lose(kind, node, index, block, other int) {
	m.losses[api.Loss{Kind: kind, Node: node, Index: index, Block: block, Other: other}] = true
}

// lay lays a record upon the blocks, if it is one.
func (m *plain) lay(record []byte) bool {
	low := binary.LittleEndian
	if len(record) < 2 {
		return false
	}
	c := int(low.Uint16(record))
	if c < 1 || c > 16 || len(record) != 2+516*c {
		return false
	}
	var blocks []int
	for i := range c {
		blocks = append(blocks, int(low.Uint32(record[2+4*i:])))
	}
	if !slices.IsSorted(blocks) || len(slices.Compact(slices.Clone(blocks))) != c || blocks[c-1] >= m.Blocks {
		return false
	}
	for i, b := range blocks {
		copy(m.home[b], record[2+4*c+512*i:][:512])
	}
	return true
}

// content is what the pointers of a node give it.
func (m *plain) content(k int, n api.Node) {
	type hop struct{ index, depth, block int }
	var ahead []hop
	for i, block := range n.Direct {
		ahead = append(ahead, hop{i, 0, block})
	}
	ahead = append(ahead, hop{10, 1, n.Single}, hop{138, 2, n.Double})
	m.data[k] = map[int][]byte{}
	for len(ahead) > 0 {
		h := ahead[0]
		ahead = ahead[1:]
		_, before := m.owner[h.block]
		switch {
		case h.block == 0:
		case h.block < m.Data || h.block > m.Blocks-1:
			m.lose(api.LPointer, k, h.index, h.block, h.depth)
		case before:
			m.lose(api.LTwice, k, h.index, h.block, h.depth)
		case h.depth > 0:
			m.owner[h.block] = k
			var within []hop
			for i := range 128 {
				within = append(within, hop{h.index + i*[]int{1, 128}[h.depth-1], h.depth - 1, int(binary.LittleEndian.Uint32(m.home[h.block][4*i:]))})
			}
			ahead = append(within, ahead...)
		case 512*h.index >= n.Size:
			m.owner[h.block] = k
			m.lose(api.LBeyond, k, h.index, h.block, 0)
		default:
			m.owner[h.block] = k
			m.data[k][h.index] = m.trimmed(k, h.index, h.block, n.Size)
		}
	}
	holes := 0
	for i := 0; n.Kind == 2 && 512*i < n.Size; i++ {
		if m.data[k][i] == nil {
			holes++
		}
	}
	if holes > 0 {
		m.lose(api.LHole, k, 0, 0, holes)
	}
	if n.Kind == 3 && (n.Size == 0 || n.Size > 255 || m.data[k][0] == nil || slices.Contains(m.data[k][0][:n.Size], 0)) {
		m.mute[k] = true
		m.lose(api.LText, k, 0, 0, 0)
	}
}

// trimmed is a data block, with zeros behind the size.
func (m *plain) trimmed(k, index, block, size int) []byte {
	data := slices.Clone(m.home[block])
	for i := range data {
		if 512*index+i >= size && data[i] != 0 {
			m.lose(api.LTail, k, index, block, 0)
			data[i] = 0
		}
	}
	return data
}

// entries are those that stand.
func (m *plain) entries() {
	for k, n := range m.nodes {
		if n.Kind != 2 {
			continue
		}
		var names []string
		for _, i := range slices.Sorted(maps.Keys(m.data[k])) {
			for j := range 8 {
				x, e := codec.DecodeEntry(m.data[k][i][64*j : 64*j+64])
				x.Slot = 8*i + j
				if e != api.OK {
					m.lose(api.LEntry, k, x.Slot, 0, 0)
				} else if x.Name != "" && slices.Contains(names, x.Name) {
					m.lose(api.LName, k, x.Slot, 0, 0)
				} else if x.Name != "" {
					names = append(names, x.Name)
					if m.nodes[x.Node].Kind != x.Kind {
						m.lose(api.LTarget, k, x.Slot, 0, x.Node)
					} else {
						m.stand[k] = append(m.stand[k], x)
						m.named[x.Node] = true
					}
				}
			}
		}
		slices.SortFunc(m.stand[k], func(a, b api.Entry) int { return strings.Compare(a.Name, b.Name) })
	}
}

// through goes through a directory.
func (m *plain) through(dir int, path string) {
	for _, x := range m.stand[dir] {
		p := path + "/" + x.Name
		if len(p) > 1023 {
			m.lose(api.LDeep, dir, x.Slot, 0, x.Node)
			continue
		}
		if x.Kind == 3 && m.mute[x.Node] {
			continue
		}
		if x.Kind == 2 && m.placed[x.Node] {
			m.lose(api.LAgain, dir, x.Slot, 0, x.Node)
			continue
		}
		m.given[p], m.placed[x.Node] = x.Node, true
		if x.Kind == 2 {
			m.through(x.Node, p)
		}
	}
}

func (m *plain) tree() {
	taken := map[string]bool{}
	if m.nodes[1].Kind == 2 {
		m.placed[1] = true
		m.through(1, "")
		for _, x := range m.stand[1] {
			taken[x.Name] = true
		}
	} else {
		m.lose(api.LRoot, 0, 0, 0, 0)
	}
	lost := "lost"
	for i := 1; taken[lost]; i++ {
		lost = fmt.Sprintf("lost.%d", i)
	}
	loose := func(is func(k int, n api.Node) bool) {
		for _, k := range slices.Sorted(maps.Keys(m.nodes)) {
			if n := m.nodes[k]; !m.placed[k] && is(k, n) {
				m.lose(api.LLoose, k, 0, 0, 0)
				p := fmt.Sprintf("/%s/n%d", lost, k)
				m.given["/"+lost], m.given[p], m.placed[k] = 0, k, true
				if n.Kind == 2 {
					m.through(k, p)
				}
			}
		}
	}
	loose(func(k int, n api.Node) bool { return n.Kind == 2 && !m.named[k] })
	loose(func(k int, n api.Node) bool { return n.Kind == 2 })
	loose(func(k int, n api.Node) bool {
		orphan := n.Kind == 1 && !m.named[k] && n.Links == 0
		return n.Kind != 2 && !orphan && !m.mute[k]
	})
}

func (m *plain) items() []api.Item {
	var items []api.Item
	first := map[int]string{}
	for _, path := range slices.SortedFunc(maps.Keys(m.given), site.Order) {
		k := m.given[path]
		x := api.Item{Kind: m.nodes[k].Kind, Path: path}
		switch {
		case k == 0:
			x.Kind = 2
		case x.Kind == 3:
			x.Target = string(m.data[k][0][:m.nodes[k].Size])
		case x.Kind == 1 && first[k] != "":
			x.Kind, x.Target = 4, first[k]
		case x.Kind == 1:
			first[k] = path
			x.Size = m.nodes[k].Size
			for _, i := range slices.Sorted(maps.Keys(m.data[k])) {
				x.Data = append(x.Data, m.data[k][i]...)
				if m.data[k][i-1] == nil {
					x.Runs = append(x.Runs, api.Run{From: i})
				}
				x.Runs[len(x.Runs)-1].To = i + 1
			}
		}
		items = append(items, x)
	}
	if len(items) > 4096 {
		m.lose(api.LMany, 0, 0, 0, len(items)-4096)
		items = items[:4096]
	}
	return items
}
