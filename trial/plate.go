package trial

import (
	"slices"

	"vellum/api"
	"vellum/codec"
	"vellum/fan"
)

// Plate is the home blocks of an image, as they are to be laid on a disk.
type Plate struct {
	api.Layout
	T    T
	Form api.Super
	Held [][]byte // by block
}

// Zeros is a plate on which nothing stands.
func Zeros(t T, form api.Super) *Plate {
	t.Helper()
	l, e := codec.Plan(form)
	Is(t, "Plan", e, api.OK)
	p := &Plate{Layout: l, T: t, Form: form}
	for range l.Blocks {
		p.Held = append(p.Held, make([]byte, api.Size))
	}
	return p
}

// Rooted is a plate with a root without entries.
func Rooted(t T, form api.Super) *Plate {
	t.Helper()
	p := Zeros(t, form)
	for b := range p.Data {
		p.Taken(b)
	}
	p.Born(1, api.Node{Kind: api.KDir, Links: 2, Parent: 1})
	return p
}

// Sample is a plate on which all kinds of things stand: Blocks 43, Data 4.
//
//	1 the root: block 4: "d" 2 in slot 0, "f" 3 in slot 1, "l" 4 in slot 2
//	2 a directory: block 5: "g" 3 in slot 0, "e" 5 in slot 3
//	3 a file of two names: index 0 in block 6; the single block 7: index 10 in block 8; the double block 9, its leaf 1 in block 10: index 266, in which it ends, in block 11
//	4 a link: block 12: "d/g"
//	5 a directory without entries
//	6 an orphan
func Sample(t T) *Plate {
	t.Helper()
	p := Rooted(t, api.Super{Sectors: 64, Log: 18, Nodes: 8})
	p.Lay(1, api.Node{Kind: api.KDir, Links: 3, Parent: 1, Size: 512, Owned: 1, Direct: [10]int{4}})
	p.Born(2, api.Node{Kind: api.KDir, Links: 3, Parent: 1, Size: 512, Owned: 1, Direct: [10]int{5}})
	p.Born(3, api.Node{Kind: api.KFile, Links: 2, Size: 512*266 + 100, Owned: 6, Direct: [10]int{6}, Single: 7, Double: 9})
	p.Born(4, api.Node{Kind: api.KLink, Links: 1, Size: 3, Owned: 1, Direct: [10]int{12}})
	p.Born(5, api.Node{Kind: api.KDir, Links: 2, Parent: 2})
	p.Born(6, api.Node{Kind: api.KFile})
	p.Taken(4, 5, 6, 7, 8, 9, 10, 11, 12)
	p.Entry(4, 0, api.Entry{Node: 2, Kind: api.KDir, Name: "d"})
	p.Entry(4, 1, api.Entry{Node: 3, Kind: api.KFile, Name: "f"})
	p.Entry(4, 2, api.Entry{Node: 4, Kind: api.KLink, Name: "l"})
	p.Entry(5, 0, api.Entry{Node: 3, Kind: api.KFile, Name: "g"})
	p.Entry(5, 3, api.Entry{Node: 5, Kind: api.KDir, Name: "e"})
	p.Point(7, 0, 8)
	p.Point(9, 1, 10)
	p.Point(10, 0, 11)
	for _, b := range []int{6, 8} {
		copy(p.Held[b], Fill('x'))
	}
	copy(p.Held[11], Fill('y')[:100])
	copy(p.Held[12], "d/g")
	return p
}

// Again is another plate with the same bytes.
func (p *Plate) Again() *Plate {
	copied := *p
	copied.Held = nil
	for _, data := range p.Held {
		copied.Held = append(copied.Held, slices.Clone(data))
	}
	return &copied
}

// Turn turns a bit of a bitmap.
func (p *Plate) Turn(bitmap, bit int) { p.Held[bitmap][bit/8] ^= 1 << (bit % 8) }

// Taken sets the bits of free blocks.
func (p *Plate) Taken(blocks ...int) {
	for _, b := range blocks {
		p.Turn(0, b)
	}
}

// Slot is the bytes of a node's slot.
func (p *Plate) Slot(number int) []byte {
	return p.Held[2+(number-1)/4][(number-1)%4*128:][:128]
}

// Told is the node in a slot.
func (p *Plate) Told(number int) api.Node {
	p.T.Helper()
	n, e := codec.DecodeNode(p.Slot(number))
	Is(p.T, "DecodeNode", e, api.OK)
	return n
}

// Lay lays a node into its slot.
func (p *Plate) Lay(number int, n api.Node) {
	p.T.Helper()
	record, e := codec.EncodeNode(n)
	Is(p.T, "EncodeNode", e, api.OK)
	copy(p.Slot(number), record)
}

// Born lays a node, and sets its bit.
func (p *Plate) Born(number int, n api.Node) {
	p.T.Helper()
	p.Lay(number, n)
	p.Turn(1, number-1)
}

// Change lays a node anew.
func (p *Plate) Change(number int, how func(n *api.Node)) {
	p.T.Helper()
	n := p.Told(number)
	how(&n)
	p.Lay(number, n)
}

// Entry lays one into a slot of a block.
func (p *Plate) Entry(block, slot int, entry api.Entry) {
	p.T.Helper()
	record, e := codec.EncodeEntry(entry)
	Is(p.T, "EncodeEntry", e, api.OK)
	copy(p.Held[block][64*slot:], record)
}

// Point lays a pointer into an indirect block.
func (p *Plate) Point(block, place, pointer int) {
	row := fan.Read(p.Held[block])
	row[place] = pointer
	p.Held[block] = row.Bytes()
}
