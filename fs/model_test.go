package fs_test

import (
	"maps"
	"slices"
	"strings"

	"vellum/api"
	"vellum/halt"
	"vellum/walk"
)

// A plain model of the chapter's words: nodes in a map, files as maps of blocks, directories as lists of slots. It knows nothing of disks; of blocks it knows how many there are, and how many a node owns.

type thing struct {
	kind, links, parent, size int
	blocks                    map[int][512]byte // by index
	slots                     []api.Entry       // of a directory, eight for each block; the empty one has no node
}

type model struct {
	blocks, numbers int // how many there are in all
	things          map[int]thing
	held            map[int]int
}

func newModel(blocks, numbers int) *model {
	return &model{blocks: blocks, numbers: numbers, things: map[int]thing{1: {kind: api.KDir, links: 2, parent: 1}}, held: map[int]int{}}
}

func (m *model) clone() *model {
	c := &model{m.blocks, m.numbers, maps.Clone(m.things), maps.Clone(m.held)}
	for k, x := range c.things {
		x.blocks, x.slots = maps.Clone(x.blocks), slices.Clone(x.slots)
		c.things[k] = x
	}
	return c
}

// change lets a node be another, and refuses what there is no room for.
func (m *model) change(k int, by func(x *thing)) {
	x := m.things[k]
	by(&x)
	m.things[k] = x
	blocks, _ := m.space()
	halt.If(blocks < 0, api.ErrNoSpace)
}

// owned counts the blocks of a node, indirect ones too.
func (x thing) owned() int {
	indexes := slices.Collect(maps.Keys(x.blocks))
	for i := range len(x.slots) / 8 {
		indexes = append(indexes, i)
	}
	indirect := map[int]int{}
	for _, i := range indexes {
		switch {
		case i >= 138:
			indirect[-2]++
			indirect[i-(i-138)%128]++
		case i >= 10:
			indirect[-1]++
		}
	}
	return len(indexes) + len(indirect)
}

func (m *model) space() (blocks, numbers int) {
	blocks = m.blocks
	for _, x := range m.things {
		blocks -= x.owned()
	}
	return blocks, m.numbers - len(m.things)
}

func (m *model) make(kind, parent int) int {
	halt.If(len(m.things) == m.numbers, api.ErrNoNodes)
	k := 1
	for m.things[k].kind != 0 {
		k++
	}
	x := thing{kind: kind, parent: parent, links: 1}
	if kind == api.KDir {
		x.links = 2
	}
	m.things[k] = x
	return k
}

func (m *model) add(p api.Place, node, kind int) {
	m.change(p.Parent, func(x *thing) {
		slot := slices.IndexFunc(x.slots, func(e api.Entry) bool { return e.Node == 0 })
		if slot < 0 {
			slot = len(x.slots)
			x.slots = append(x.slots, make([]api.Entry, 8)...)
			x.size += 512
		}
		x.slots[slot] = api.Entry{Node: node, Kind: kind, Name: p.Name, Slot: slot}
	})
}

func (m *model) del(p api.Place) {
	m.change(p.Parent, func(x *thing) {
		x.slots[slices.IndexFunc(x.slots, func(e api.Entry) bool { return e.Name == p.Name })] = api.Entry{}
		for len(x.slots) > 0 && !slices.ContainsFunc(x.slots[len(x.slots)-8:], func(e api.Entry) bool { return e.Node != 0 }) {
			x.slots = x.slots[:len(x.slots)-8]
			x.size -= 512
		}
	})
}

func (m *model) relink(k, more int) { m.change(k, func(x *thing) { x.links += more }) }

// unname lets a file or a link have a link less.
func (m *model) unname(k int) {
	m.relink(k, -1)
	if m.things[k].links == 0 && m.held[k] == 0 {
		delete(m.things, k)
	}
}

func (m *model) empty(k int) bool { return len(m.things[k].slots) == 0 }

func (m *model) entries(k int) []api.Entry {
	list := slices.DeleteFunc(slices.Clone(m.things[k].slots), func(e api.Entry) bool { return e.Node == 0 })
	slices.SortFunc(list, func(a, b api.Entry) int { return strings.Compare(a.Name, b.Name) })
	return list
}

func (m *model) resolve(path string, follow bool) api.Place {
	left := halt.Got(walk.Split(path))
	at, hops := 1, 0
	for len(left) > 0 {
		part := left[0]
		left = left[1:]
		if part == ".." {
			at = m.things[at].parent
			continue
		}
		var entry api.Entry
		for _, e := range m.entries(at) {
			if e.Name == part {
				entry = e
			}
		}
		switch last := len(left) == 0; {
		case entry.Kind == api.KLink && (follow || !last):
			halt.If(hops == 8, api.ErrLoop)
			hops++
			text := m.text(entry.Node)
			left = append(halt.Got(walk.Split("/"+text)), left...)
			if text[0] == '/' {
				at = 1
			}
		case last:
			return api.Place{Parent: at, Name: part, Node: entry.Node, Kind: entry.Kind}
		case entry.Kind == api.KDir:
			at = entry.Node
		case entry.Kind == api.KFile:
			halt.On(api.ErrNotDir)
		default:
			halt.On(api.ErrNotFound)
		}
	}
	return api.Place{Node: at, Kind: api.KDir}
}

func (m *model) text(link int) string { return string(m.read(link, 0, 255)) }

// inside says whether a directory is another one or lies below it.
func (m *model) inside(k, dir int) bool {
	for k != dir && k != 1 {
		k = m.things[k].parent
	}
	return k == dir
}

func (m *model) read(k, off, n int) []byte {
	x := m.things[k]
	if off >= x.size {
		return nil
	}
	data := make([]byte, min(n, x.size-off))
	for at := 0; at < len(data); {
		block := x.blocks[(off+at)/512]
		at += copy(data[at:], block[(off+at)%512:])
	}
	return data
}

func (m *model) writeAt(k, off int, data []byte) {
	m.change(k, func(x *thing) {
		if x.blocks == nil {
			x.blocks = map[int][512]byte{}
		}
		x.size = max(x.size, off+len(data))
		for len(data) > 0 {
			block := x.blocks[off/512]
			n := copy(block[off%512:], data)
			x.blocks[off/512] = block
			off, data = off+n, data[n:]
		}
	})
}

func (m *model) resize(k, size int) {
	m.change(k, func(x *thing) {
		x.size = size
		for i, block := range x.blocks {
			if 512*i >= size {
				delete(x.blocks, i)
			} else {
				clear(block[min(512, size-512*i):])
				x.blocks[i] = block
			}
		}
	})
}

func (m *model) wipe(k, off, n int) {
	m.change(k, func(x *thing) {
		if off >= x.size {
			return
		}
		end := off + min(n, x.size-off)
		for i, block := range x.blocks {
			from, to := max(off, 512*i), min(end, 512*i+512)
			switch {
			case from >= to:
			case from == 512*i && to == min(x.size, 512*i+512):
				delete(x.blocks, i)
			default:
				clear(block[from-512*i : to-512*i])
				x.blocks[i] = block
			}
		}
	})
}

func (m *model) runs(k int) []api.Run {
	var runs []api.Run
	for _, i := range slices.Sorted(maps.Keys(m.things[k].blocks)) {
		if last := len(runs) - 1; last >= 0 && runs[last].To == i {
			runs[last].To++
		} else {
			runs = append(runs, api.Run{From: i, To: i + 1})
		}
	}
	return runs
}

// drop is what a Mount does: nothing is held, and the orphans are gone.
func (m *model) drop() {
	clear(m.held)
	maps.DeleteFunc(m.things, func(_ int, x thing) bool { return x.kind == api.KFile && x.links == 0 })
}

func (m *model) hold(path string) (k int, e api.Errno) {
	defer func() { e = halt.Caught(recover(), unspoilt) }()
	p := m.resolve(path, true)
	halt.If(p.Node == 0, api.ErrNotFound)
	halt.If(p.Kind == api.KDir, api.ErrIsDir)
	m.held[p.Node]++
	return p.Node, api.OK
}

func (m *model) release(k int) api.Errno {
	if m.held[k] == 0 {
		return api.ErrNotHeld
	}
	m.held[k]--
	if m.held[k] == 0 && m.things[k].links == 0 {
		delete(m.things, k)
	}
	return api.OK
}

func unspoilt(e api.Errno) api.Errno { return e }
