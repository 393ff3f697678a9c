package check_test

import (
	"strconv"
	"testing"

	"vellum/api"
)

// links lets a node's field say so many.
func links(number, links int) func(p *plate) {
	return node(number, func(n *api.Node) { n.Links = links })
}

// parent lets a directory's field say another one.
func parent(number, parent int) func(p *plate) {
	return node(number, func(n *api.Node) { n.Parent = parent })
}

// born makes a node without a name.
func born(number int, n api.Node) func(p *plate) { return func(p *plate) { p.Born(number, n) } }

func linked(number, n int) api.Fault { return api.Fault{Kind: api.FLinks, Node: number, Other: n} }

func hung(number, n int) api.Fault { return api.Fault{Kind: api.FParent, Node: number, Other: n} }

func lost(number int) api.Fault { return api.Fault{Kind: api.FLost, Node: number} }

func looped(number int) api.Fault { return api.Fault{Kind: api.FLoop, Node: number} }

// Node 7 of the sample, if it is a directory, a link or a file without blocks.
var (
	seventh = api.Node{Kind: api.KDir, Links: 2, Parent: 1}
	pointed = api.Node{Kind: api.KLink, Links: 1, Size: 3, Owned: 1, Direct: [10]int{20}}
)

// pointing makes node 7 a link to "abc" without a name.
func pointing(p *plate) {
	p.Born(7, pointed)
	p.Taken(20)
	copy(p.Held[20], "abc")
}

func TestP1201Links(t *testing.T) {
	for _, n := range []int{0, 1, 3, 64} {
		breaks(t, 5, []change{{"a file of two names", links(3, n), []api.Fault{linked(3, 2)}}})
	}
	for _, n := range []int{1, 2, 64} {
		breaks(t, 5, []change{{"a file without a name", links(6, n), []api.Fault{linked(6, 0)}}})
	}
	for _, n := range []int{0, 2, 64} {
		breaks(t, 5, []change{{"a link", links(4, n), []api.Fault{linked(4, 1)}}})
	}
	for number, right := range map[int]int{1: 3, 2: 3, 5: 2} {
		for _, n := range []int{0, 1, 2, 3, 4, 64} {
			if n != right {
				breaks(t, 5, []change{{"a directory", links(number, n), []api.Fault{linked(number, right)}}})
			}
		}
	}
	breaks(t, 5, []change{
		{"a name is gone", gone(5, 0), []api.Fault{linked(3, 1)}},
		{"both names are gone", together(gone(5, 0), gone(4, 1)), []api.Fault{linked(3, 0)}},
		{"a name of an orphan", entry(4, 7, 6, api.KFile, "x"), []api.Fault{linked(6, 1)}},
		{"a third name", entry(4, 7, 3, api.KFile, "x"), []api.Fault{linked(3, 3)}},
		{"two names of a link", entry(4, 7, 4, api.KLink, "x"), []api.Fault{linked(4, 2)}},
		{"two names of a link that says so", together(entry(4, 7, 4, api.KLink, "x"), links(4, 2)), []api.Fault{linked(4, 2)}},
		{"two names of a link that says none", together(entry(5, 7, 4, api.KLink, "x"), links(4, 0)), []api.Fault{linked(4, 2)}},
		{"three names of a link", together(entry(5, 7, 4, api.KLink, "x"), entry(5, 6, 4, api.KLink, "y")), []api.Fault{linked(4, 3)}},
	})
	whole := api.Report{Files: 1, Dirs: 3, Links: 1, Orphans: 1, Used: 9}
	keeps(t, "a name less", together(gone(5, 0), links(3, 1)), whole)
	keeps(t, "a name more", together(entry(5, 7, 3, api.KFile, "x"), links(3, 3)), whole)
	keeps(t, "an orphan more", together(gone(4, 1), gone(5, 0), links(3, 0)), api.Report{Dirs: 3, Links: 1, Orphans: 2, Used: 9})
	keeps(t, "an orphan less", together(entry(4, 7, 6, api.KFile, "x"), links(6, 1)), api.Report{Files: 2, Dirs: 3, Links: 1, Used: 9})
}

func TestP1201Parent(t *testing.T) {
	breaks(t, 5, []change{
		{"in another directory", parent(5, 1), []api.Fault{hung(5, 0)}},
		{"in itself", parent(5, 5), []api.Fault{hung(5, 0)}},
		{"in a file", parent(5, 3), []api.Fault{hung(5, 0)}},
		{"in no node", parent(2, 8), []api.Fault{hung(2, 0)}},
		{"in no number", parent(2, 1024), []api.Fault{hung(2, 0)}},
		{"twice in its parent", together(entry(5, 7, 5, api.KDir, "x"), links(2, 4)), []api.Fault{hung(5, 2)}},
		{"once more elsewhere", together(entry(4, 7, 5, api.KDir, "x"), links(1, 4)), []api.Fault{hung(5, 2)}},
		{"twice elsewhere", together(gone(5, 3), links(2, 2), entry(4, 7, 5, api.KDir, "x"), entry(4, 6, 5, api.KDir, "y"), links(1, 5)), []api.Fault{hung(5, 2)}},
		{"three times", together(entry(5, 7, 5, api.KDir, "x"), entry(5, 6, 5, api.KDir, "y"), links(2, 5)), []api.Fault{hung(5, 3)}},
		{"the root has a name", together(entry(4, 7, 1, api.KDir, "x"), links(1, 4)), []api.Fault{hung(1, 1)}},
		{"the root has a name below", together(entry(5, 7, 1, api.KDir, "x"), links(2, 4)), []api.Fault{hung(1, 1)}},
		{"the root has two names", together(entry(5, 7, 1, api.KDir, "x"), links(2, 4), entry(4, 7, 1, api.KDir, "x"), links(1, 4)), []api.Fault{hung(1, 2)}},
	})
	keeps(t, "moved", together(gone(5, 3), links(2, 2), entry(4, 7, 5, api.KDir, "x"), links(1, 4), parent(5, 1)), sampleReport)
}

func TestP1201Lost(t *testing.T) {
	breaks(t, 5, []change{
		{"a directory", born(7, seventh), []api.Fault{lost(7)}},
		{"a directory in itself", born(7, api.Node{Kind: api.KDir, Links: 2, Parent: 7}), []api.Fault{lost(7)}},
		{"a directory with a wrong count", born(7, api.Node{Kind: api.KDir, Parent: 1}), []api.Fault{linked(7, 2), lost(7)}},
		{"a link", pointing, []api.Fault{lost(7)}},
		{"a link without a link", together(pointing, links(7, 0)), []api.Fault{lost(7)}},
		{"a directory whose name is gone", together(gone(4, 0), links(1, 2)), []api.Fault{lost(2), looped(5)}},
		{"a link whose name is gone", gone(4, 2), []api.Fault{lost(4)}},
		{"a directory whose name is a file's", together(entry(5, 3, 6, api.KFile, "e"), links(6, 1), links(2, 2)), []api.Fault{lost(5)}},
	})
}

func TestP1201Loop(t *testing.T) {
	ring := together( // 2 in 5, and 5 in 2
		gone(4, 0), links(1, 2),
		func(p *plate) { p.Taken(20) },
		node(5, func(n *api.Node) { n.Links, n.Size, n.Owned, n.Direct[0] = 3, 512, 1, 20 }),
		entry(20, 0, 2, api.KDir, "d"),
	)
	breaks(t, 5, []change{
		{"a ring", together(ring, parent(2, 5)), []api.Fault{looped(2), looped(5)}},
		{"a ring with a wrong parent", ring, []api.Fault{hung(2, 0), looped(2), looped(5)}},
		{"a ring that the root reaches", together(ring, entry(4, 0, 2, api.KDir, "d"), links(1, 3), parent(2, 5)), []api.Fault{hung(2, 2)}},
		{"in itself", together(born(7, api.Node{Kind: api.KDir, Links: 3, Parent: 7, Size: 512, Owned: 1, Direct: [10]int{20}}), bits(20), entry(20, 0, 7, api.KDir, "x")), []api.Fault{looped(7)}},
		{"below a lost one", together(gone(4, 0), links(1, 2)), []api.Fault{lost(2), looped(5)}},
		{"the root in a ring is none", together(entry(5, 3, 1, api.KDir, "e"), gone(4, 0), links(1, 2)), []api.Fault{hung(1, 1), lost(2), lost(5)}},
	})
}

func TestP1201AllOfTheTree(t *testing.T) {
	breaks(t, 5, []change{{"one of each", together(links(6, 3), parent(5, 1), born(7, seventh), born(8, seventh), links(7, 3), parent(8, 7),
		node(7, func(n *api.Node) { n.Size, n.Owned, n.Direct[0] = 512, 1, 20 }), bits(20), entry(20, 0, 8, api.KDir, "x")),
		[]api.Fault{linked(6, 0), hung(5, 0), lost(7), looped(8)}}})
}

// A directory of very many entries: the names are counted from all blocks; the longest way down is gone.
func TestP1201DeepAndWide(t *testing.T) {
	p := rooted(t, large)
	deepest := 700
	for k := 2; k <= deepest; k++ { // each in the one before
		p.Born(k, api.Node{Kind: api.KDir, Links: 2, Parent: k - 1})
		block := p.Data + k
		p.Taken(block)
		p.Change(k-1, func(n *api.Node) { n.Links, n.Size, n.Owned, n.Direct[0] = 3, 512, 1, block })
		p.Entry(block, k%8, api.Entry{Node: k, Kind: api.KDir, Name: strconv.Itoa(k)})
	}
	p.runs("a long way down", api.Report{Dirs: deepest, Used: deepest - 1})
	cut := p.again()
	clear(cut.Held[p.Data+300])
	cut.Entry(p.Data+300, 0, api.Entry{Node: 299, Kind: api.KDir, Name: "x"})
	want := faulty(5, hung(299, 2), lost(300))
	for k := 301; k <= deepest; k++ {
		want.Faults = append(want.Faults, looped(k))
	}
	cut.runs("a way that is cut", want)
}

// More entries of directories, and more names of a file, than a node can count.
func TestP1201Many(t *testing.T) {
	p := rooted(t, wide)
	const blocks = 10
	p.Change(1, func(n *api.Node) {
		n.Size, n.Owned = 512*blocks, blocks
		for i := range n.Direct {
			n.Direct[i] = p.Data + i
			p.Taken(p.Data + i)
		}
	})
	p.Born(2, api.Node{Kind: api.KFile, Links: 64})
	p.Born(3, api.Node{Kind: api.KDir, Links: 2, Parent: 1})
	counts := map[int]int{}
	for slot := range 8 * blocks {
		number, kind := 2, api.KFile
		if slot%16 == 0 {
			number, kind = 3, api.KDir
		}
		counts[number]++
		p.Entry(p.Data+slot/8, slot%8, api.Entry{Node: number, Kind: kind, Name: strconv.Itoa(slot)})
	}
	p.runs("more than 64 names", faulty(5, linked(1, 2+counts[3]), linked(2, counts[2]), hung(3, counts[3])))
}
