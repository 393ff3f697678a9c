package check_test

import (
	"slices"
	"testing"

	"vellum/api"
	"vellum/trial"
)

// stretched lets the directory 2 of the sample have so many indexes, with blocks at these from block 20 on, its own block aside; each has an entry of the file 6, which is made to have as many links.
func stretched(indexes int, held ...int) func(p *plate) {
	return func(p *plate) {
		n := p.Told(2)
		n.Size = 512 * indexes
		next := 20
		fresh := func() int {
			next++
			n.Owned++
			p.Taken(next - 1)
			return next - 1
		}
		for i, index := range held {
			block := fresh()
			p.Entry(block, i%8, api.Entry{Node: 6, Kind: api.KFile, Name: "file" + string(rune('a'+i))})
			if index < 10 {
				n.Direct[index] = block
				continue
			}
			if n.Single == 0 {
				n.Single = fresh()
			}
			p.Point(n.Single, index-10, block)
		}
		p.Lay(2, n)
		p.Change(6, func(n *api.Node) { n.Links = len(held) })
	}
}

// at are faults of one kind at these indexes or slots of a node.
func at(kind, number int, indexes ...int) []api.Fault {
	var faults []api.Fault
	for _, index := range indexes {
		faults = append(faults, api.Fault{Kind: kind, Node: number, Index: index})
	}
	return faults
}

func holes(number int, indexes ...int) []api.Fault { return at(api.FHole, number, indexes...) }

func broken(number int, slots ...int) []api.Fault { return at(api.FEntry, number, slots...) }

func named(number int, slots ...int) []api.Fault { return at(api.FName, number, slots...) }

func TestP1201Hole(t *testing.T) {
	breaks(t, 4, []change{
		{"behind the block", stretched(2), holes(2, 1)},
		{"between blocks", stretched(3, 2), holes(2, 1)},
		{"ahead of the block", together(stretched(2, 1), node(2, func(n *api.Node) { n.Direct[0], n.Owned = 0, 1 }), bits(5)), holes(2, 0)},
		{"many", stretched(13, 3, 10, 12), holes(2, 1, 2, 4, 5, 6, 7, 8, 9, 11)},
		{"a directory of holes alone", node(5, func(n *api.Node) { n.Size = 1024 }), holes(5, 0, 1)},
		{"a directory of all indexes", node(5, func(n *api.Node) { n.Size = api.MaxFile }), holes(5, trial.Span(0, api.MaxIndex)...)},
		{"in two directories", together(stretched(2), node(5, func(n *api.Node) { n.Size = 512 })), append(holes(2, 1), holes(5, 0)...)},
	})
	keeps(t, "a directory without one", stretched(14, trial.Span(1, 14)...), api.Report{Files: 2, Dirs: 3, Links: 1, Used: 9 + 14})
	keeps(t, "a hole in a file", node(6, func(n *api.Node) { n.Size = 513 }), sampleReport)
}

// An entry's slot counts through the directory.
func TestP1201Entry(t *testing.T) {
	set := func(block, place int) func(p *plate) { return func(p *plate) { p.Held[block][place]++ } }
	breaks(t, 4, []change{
		{"an empty slot", set(4, 64*7+20), broken(1, 7)},
		{"the last byte of a block", set(5, 511), broken(2, 7)},
		{"the first byte of a block", set(5, 0), broken(2, 0)},
		{"all slots", func(p *plate) { copy(p.Held[4], slices.Repeat([]byte{9}, 512)) }, broken(1, trial.Span(0, 8)...)},
		{"in the second block", together(stretched(3, 1, 2), set(20, 511)), broken(2, 15)},
		{"in the third block", together(stretched(3, 1, 2), set(21, 64)), broken(2, 17)},
		{"in the single block", together(stretched(11, trial.Span(1, 11)...), set(29, 500)), broken(2, 87)},
		{"in two blocks", together(stretched(3, 1, 2), set(20, 500), set(21, 511)), broken(2, 15, 23)},
	})
}

func TestP1201Name(t *testing.T) {
	breaks(t, 4, []change{
		{"of one node", entry(4, 7, 3, api.KFile, "f"), named(1, 7)},
		{"of another node", entry(4, 7, 6, api.KFile, "f"), named(1, 7)},
		{"of another kind", entry(4, 3, 6, api.KFile, "d"), named(1, 3)},
		{"in a lower slot", entry(5, 1, 6, api.KFile, "e"), named(2, 3)},
		{"three times", together(entry(4, 4, 6, api.KFile, "f"), entry(4, 6, 6, api.KFile, "f")), named(1, 4, 6)},
		{"two names", together(entry(4, 4, 6, api.KFile, "f"), entry(4, 6, 6, api.KFile, "l")), named(1, 4, 6)},
		{"in another block", together(stretched(2, 1), entry(20, 5, 6, api.KFile, "g")), named(2, 13)},
		{"the longest ones", together(entry(4, 5, 6, api.KFile, long), entry(4, 6, 6, api.KFile, long)), named(1, 6)},
	})
	links := func(links int) func(p *plate) { return node(6, func(n *api.Node) { n.Links = links }) }
	keeps(t, "in another directory", together(entry(5, 1, 6, api.KFile, "f"), links(1)), api.Report{Files: 2, Dirs: 3, Links: 1, Used: 9})
	keeps(t, "names that are nearly the same", together(entry(4, 4, 6, api.KFile, "F"), entry(4, 5, 6, api.KFile, "ff"), entry(4, 6, 6, api.KFile, long), entry(4, 7, 6, api.KFile, long[1:]), links(4)), api.Report{Files: 2, Dirs: 3, Links: 1, Used: 9})
}

const long = "nnnnnnnnnnnnnnnnnnnnnnnnnnnnnnnnnnnnnnnnnnnnnnnnnnnnnn"

func TestP1201Target(t *testing.T) {
	target := func(number, slot, other int) []api.Fault {
		return []api.Fault{{Kind: api.FTarget, Node: number, Index: slot, Other: other}}
	}
	breaks(t, 4, []change{
		{"no node", entry(4, 7, 7, api.KFile, "x"), target(1, 7, 7)},
		{"the last node, which is none", entry(5, 7, 8, api.KDir, "x"), target(2, 7, 8)},
		{"behind the table", entry(5, 7, 9, api.KLink, "x"), target(2, 7, 9)},
		{"far behind the table", entry(5, 7, 1024, api.KFile, "x"), target(2, 7, 1024)},
		{"a file as a directory", entry(4, 1, 3, api.KDir, "f"), target(1, 1, 3)},
		{"a file as a link", entry(4, 1, 3, api.KLink, "f"), target(1, 1, 3)},
		{"a directory as a file", entry(4, 0, 2, api.KFile, "d"), target(1, 0, 2)},
		{"a directory as a link", entry(4, 0, 2, api.KLink, "d"), target(1, 0, 2)},
		{"a link as a file", entry(4, 2, 4, api.KFile, "l"), target(1, 2, 4)},
		{"a link as a directory", entry(4, 2, 4, api.KDir, "l"), target(1, 2, 4)},
		{"the root as a file", entry(5, 1, 1, api.KFile, "r"), target(2, 1, 1)},
		{"in another block", together(stretched(2, 1), entry(20, 7, 8, api.KFile, "x")), target(2, 15, 8)},
	})
}

func TestP1201Trail(t *testing.T) {
	empty := func(block int) func(p *plate) { return func(p *plate) { clear(p.Held[block]) } }
	trail := func(number int) []api.Fault { return []api.Fault{{Kind: api.FTrail, Node: number}} }
	breaks(t, 4, []change{
		{"the only block", empty(5), trail(2)},
		{"the root's", empty(4), trail(1)},
		{"both", together(empty(5), empty(4)), append(trail(1), trail(2)...)},
		{"the last block", together(stretched(3, 1, 2), empty(21)), trail(2)},
		{"in the single block", together(stretched(11, trial.Span(1, 11)...), empty(29)), trail(2)},
		{"behind a hole", together(stretched(3, 2), empty(20)), append(holes(2, 1), trail(2)...)},
		{"a broken slot is not empty", together(empty(5), func(p *plate) { p.Held[5][511] = 1 }), []api.Fault{{Kind: api.FEntry, Node: 2, Index: 7}}},
		{"a hole at the end", together(stretched(3, 1), empty(20)), holes(2, 2)},
	})
	keeps(t, "a block without an entry ahead of the last", together(stretched(3, 1, 2), empty(20), node(6, func(n *api.Node) { n.Links = 1 })), api.Report{Files: 2, Dirs: 3, Links: 1, Used: 11})
	keeps(t, "an entry in the last slot alone", together(stretched(2, 1), gone(20, 0), entry(20, 7, 6, api.KFile, "x")), api.Report{Files: 2, Dirs: 3, Links: 1, Used: 10})
}

func TestP1201Text(t *testing.T) {
	set := func(place int) func(p *plate) { return func(p *plate) { p.Held[12][place] = 0 } }
	text := []api.Fault{{Kind: api.FText, Node: 4}}
	breaks(t, 4, []change{
		{"the first byte", set(0), text},
		{"the last byte", set(2), text},
		{"a size behind the text", node(4, func(n *api.Node) { n.Size = 4 }), text},
		{"a hole", together(node(4, func(n *api.Node) { n.Owned, n.Direct[0] = 0, 0 }), bits(12)), text},
	})
	keeps(t, "a zero behind the text", set(3), sampleReport)
	keeps(t, "any other bytes", func(p *plate) { copy(p.Held[12], "\xff\x01/") }, sampleReport)
	keeps(t, "a zero in a file", func(p *plate) { clear(p.Held[6]) }, sampleReport)
}

func TestP1201AllOfContents(t *testing.T) {
	breaks(t, 4, []change{{"one of each", together(
		stretched(3, 2),
		func(p *plate) { clear(p.Held[20]) },
		func(p *plate) { p.Held[12][1] = 0 },
		entry(4, 5, 8, api.KFile, "x"),
		entry(4, 4, 6, api.KFile, "f"),
		func(p *plate) { p.Held[5][511] = 1 },
		node(3, func(n *api.Node) { n.Links = 9 }), // of the last phase
	), []api.Fault{
		{Kind: api.FEntry, Node: 2, Index: 7},
		{Kind: api.FName, Node: 1, Index: 4},
		{Kind: api.FTarget, Node: 1, Index: 5, Other: 8},
		{Kind: api.FHole, Node: 2, Index: 1},
		{Kind: api.FTrail, Node: 2},
		{Kind: api.FText, Node: 4},
	}}})
}
