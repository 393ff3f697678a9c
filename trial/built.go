package trial

import (
	"slices"
	"strconv"
	"strings"

	"vellum/api"
	"vellum/fan"
)

// builder lays a drawn tree on a plate, its blocks, nodes and slots in any order: most such trees come of no calls of the layers below, though nothing is wrong with them.
type builder struct {
	*Plate
	dice    *Dice
	free    []int // blocks
	entries map[int][]api.Entry
	report  api.Report
}

// Built is a drawn plate without a fault, and what is to be told of it.
func Built(t T, dice *Dice, form api.Super) (*Plate, api.Report) {
	t.Helper()
	b := &builder{Plate: Rooted(t, form), dice: dice, entries: map[int][]api.Entry{}, report: api.Report{Dirs: 1}}
	for block := b.Data; block < b.Blocks; block++ {
		b.free = append(b.free, block)
	}
	shuffle(dice, b.free)
	numbers := Span(2, b.Nodes+1)
	shuffle(dice, numbers)
	dirs := []int{1}
	for _, k := range numbers[:dice.Below(len(numbers)+1)] {
		switch dice.Below(3) {
		case 0:
			in := One(dice, dirs...)
			b.Born(k, api.Node{Kind: api.KDir, Links: 2, Parent: in})
			b.Change(in, func(n *api.Node) { n.Links++ })
			b.name(in, k, api.KDir)
			dirs = append(dirs, k)
			b.report.Dirs++
		case 1:
			b.file(k, dirs)
		default:
			b.link(k, One(dice, dirs...))
		}
	}
	for _, k := range dirs {
		b.directory(k)
	}
	return b.Plate, b.report
}

// shuffle lays a list into any order.
func shuffle(dice *Dice, list []int) {
	for i := range list {
		k := i + dice.Below(len(list)-i)
		list[i], list[k] = list[k], list[i]
	}
}

// name lets a directory have one more name.
func (b *builder) name(in, number, kind int) {
	text := "n" + strconv.Itoa(len(b.entries[in]))
	text += string(b.dice.Bytes(b.dice.Below(55 - len(text))))
	text = strings.NewReplacer("/", "x", "\x00", "y").Replace(text)
	b.entries[in] = append(b.entries[in], api.Entry{Node: number, Kind: kind, Name: text})
}

// take gives out a block that is free.
func (b *builder) take() int {
	block := b.free[0]
	b.free = b.free[1:]
	b.Taken(block)
	b.report.Used++
	return block
}

// content lets a node hold blocks at these indexes, and tells them.
func (b *builder) content(k int, indexes []int) []int {
	var blocks []int
	b.Change(k, func(n *api.Node) {
		used := b.report.Used
		for _, index := range indexes {
			block := b.take()
			blocks = append(blocks, block)
			switch {
			case index < 10:
				n.Direct[index] = block
			case index < 138:
				b.behind(&n.Single, index-10, block)
			default:
				b.behind(&n.Double, (index-138)/128, 0)
				leaf := fan.Read(b.Held[n.Double])[(index-138)/128]
				b.behind(&leaf, (index-138)%128, block)
				b.Point(n.Double, (index-138)/128, leaf)
			}
		}
		n.Owned = b.report.Used - used
	})
	return blocks
}

// behind lays a pointer into an indirect block, which is taken if it is not there; 0 changes none.
func (b *builder) behind(indirect *int, place, block int) {
	if *indirect == 0 {
		*indirect = b.take()
	}
	if block != 0 {
		b.Point(*indirect, place, block)
	}
}

// file makes one with some names, and with blocks here and there.
func (b *builder) file(k int, dirs []int) {
	d := b.dice
	b.Born(k, api.Node{Kind: api.KFile})
	names := One(d, 0, 1, 1, 1, 2, 3)
	for range names {
		b.name(One(d, dirs...), k, api.KFile)
	}
	var indexes []int
	if len(b.free) > b.Nodes+12 { // the directories need some, too
		for range d.Below(5) {
			indexes = append(indexes, One(d, 0, 0, 1, 2, 9, 10, 11, 137, 138, 139, 265, 266, 266+127, 16521, d.Below(api.MaxIndex)))
		}
	}
	slices.Sort(indexes)
	indexes = slices.Compact(indexes)
	blocks := b.content(k, indexes)
	last := -1
	for i, index := range indexes {
		b.Held[blocks[i]] = d.Bytes(512)
		last = index
	}
	b.Change(k, func(n *api.Node) {
		n.Links = names
		switch size := 512*(last+1) - d.Below(512); {
		case last >= 0 && d.Below(3) > 0:
			n.Size = size
			clear(b.Held[blocks[len(blocks)-1]][512-(512*(last+1)-size):])
		default:
			n.Size = 512*(last+1) + d.Below(api.MaxFile+1-512*(last+1))
		}
	})
	if names == 0 {
		b.report.Orphans++
	} else {
		b.report.Files++
	}
}

// link makes one with a text of any bytes.
func (b *builder) link(k, in int) {
	size := One(b.dice, 1, 255, 1+b.dice.Below(255))
	b.Born(k, api.Node{Kind: api.KLink, Links: 1, Size: size})
	b.name(in, k, api.KLink)
	block := b.content(k, []int{0})[0]
	for i := range size {
		b.Held[block][i] = One(b.dice, '/', '.', 'n', byte(1+b.dice.Below(255)))
	}
	b.report.Links++
}

// directory lays its entries into any slots, of which one must be in the last block.
func (b *builder) directory(k int) {
	entries := b.entries[k]
	if len(entries) == 0 {
		return
	}
	count := (len(entries)+7)/8 + b.dice.Below(2)
	if len(b.free) < b.Nodes {
		count = (len(entries) + 7) / 8
	}
	slots := Span(0, 8*count)
	shuffle(b.dice, slots)
	if slices.Max(slots[:len(entries)]) < 8*(count-1) {
		slots[0] = 8*count - 1
	}
	blocks := b.content(k, Span(0, count))
	for i, x := range entries {
		b.Entry(blocks[slots[i]/8], slots[i]%8, x)
	}
	b.Change(k, func(n *api.Node) { n.Size = 512 * count })
}

// Span are the numbers from one to another, which is not among them.
func Span(from, to int) []int {
	var list []int
	for i := from; i < to; i++ {
		list = append(list, i)
	}
	return list
}
