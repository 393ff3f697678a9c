package check_test

import (
	"slices"
	"testing"

	"vellum/api"
)

// sampleReport is what is told of the sample.
var sampleReport = api.Report{Files: 1, Dirs: 3, Links: 1, Orphans: 1, Used: 9}

// change is a thing that is done to the sample, and the faults that come of it.
type change struct {
	what   string
	do     func(p *plate)
	faults []api.Fault
}

// breaks asks that the faults of each of these are told in that phase, on a sample of its own.
func breaks(t *testing.T, phase int, list []change) {
	t.Helper()
	for _, c := range list {
		p := sample(t)
		c.do(p)
		p.runs(c.what, faulty(phase, c.faults...))
	}
}

// keeps asks that a thing is no fault.
func keeps(t *testing.T, what string, do func(p *plate), want api.Report) {
	t.Helper()
	p := sample(t)
	do(p)
	p.runs(what, want)
}

// node changes one.
func node(number int, how func(n *api.Node)) func(p *plate) {
	return func(p *plate) { p.Change(number, how) }
}

// point lays a pointer into an indirect block.
func point(block, place, pointer int) func(p *plate) {
	return func(p *plate) { p.Point(block, place, pointer) }
}

// entry lays one into a slot of a block.
func entry(block, slot, number, kind int, name string) func(p *plate) {
	return func(p *plate) { p.Entry(block, slot, api.Entry{Node: number, Kind: kind, Name: name}) }
}

// gone empties a slot of a directory's block.
func gone(block, slot int) func(p *plate) {
	return func(p *plate) { clear(p.Held[block][64*slot:][:64]) }
}

// bits turns bits of the block bitmap.
func bits(blocks ...int) func(p *plate) { return func(p *plate) { p.Taken(blocks...) } }

// together does one thing behind the other.
func together(list ...func(p *plate)) func(p *plate) {
	return func(p *plate) {
		for _, do := range list {
			do(p)
		}
	}
}

func TestP1201Sample(t *testing.T) { sample(t).runs("the sample", sampleReport) }

func TestP1201Table(t *testing.T) {
	size := func(number, size int) func(p *plate) {
		return node(number, func(n *api.Node) { n.Size = size })
	}
	parent := func(number, parent int) func(p *plate) {
		return node(number, func(n *api.Node) { n.Parent = parent })
	}
	breaks(t, 1, []change{
		{"a broken slot", func(p *plate) { p.Slot(3)[30]++ }, []api.Fault{{Kind: api.FNode, Node: 3}}},
		{"a broken slot without a node", func(p *plate) { p.Slot(8)[127] = 1 }, []api.Fault{{Kind: api.FNode, Node: 8}}},
		{"a broken root", func(p *plate) { p.Slot(1)[0] = api.KFile }, []api.Fault{{Kind: api.FNode, Node: 1}}},
		{"many broken slots", func(p *plate) { p.Slot(8)[0], p.Slot(7)[1], p.Slot(2)[5] = 1, 1, 1 }, []api.Fault{{Kind: api.FNode, Node: 2}, {Kind: api.FNode, Node: 7}, {Kind: api.FNode, Node: 8}}},
		{"no root", func(p *plate) { clear(p.Slot(1)) }, []api.Fault{{Kind: api.FRoot, Node: 1}}},
		{"a file as the root", func(p *plate) { p.Lay(1, api.Node{Kind: api.KFile, Links: 1}) }, []api.Fault{{Kind: api.FRoot, Node: 1}}},
		{"a link as the root", func(p *plate) { p.Lay(1, api.Node{Kind: api.KLink, Links: 1, Size: 3}) }, []api.Fault{{Kind: api.FRoot, Node: 1}}},
		{"a link without a text as the root", func(p *plate) { p.Lay(1, api.Node{Kind: api.KLink, Links: 1}) }, []api.Fault{{Kind: api.FRoot, Node: 1}, {Kind: api.FShape, Node: 1}}},
		{"the root in another directory", parent(1, 2), []api.Fault{{Kind: api.FRoot, Node: 1}}},
		{"the root in none", together(parent(1, 1024), size(1, 511)), []api.Fault{{Kind: api.FRoot, Node: 1}, {Kind: api.FShape, Node: 1, Other: 511}}},
		{"a directory of a byte more", size(2, 513), []api.Fault{{Kind: api.FShape, Node: 2, Other: 513}}},
		{"a directory that ends with an entry", size(5, 64), []api.Fault{{Kind: api.FShape, Node: 5, Other: 64}}},
		{"a link without a text", size(4, 0), []api.Fault{{Kind: api.FShape, Node: 4}}},
		{"a link of a byte too many", size(4, 256), []api.Fault{{Kind: api.FShape, Node: 4, Other: 256}}},
		{"a link of a block", size(4, 512), []api.Fault{{Kind: api.FShape, Node: 4, Other: 512}}},
		{"all of it", together(parent(1, 2), size(4, 300), size(2, api.MaxFile-1), func(p *plate) { p.Slot(6)[0] = 4 }), []api.Fault{{Kind: api.FNode, Node: 6}, {Kind: api.FRoot, Node: 1}, {Kind: api.FShape, Node: 2, Other: api.MaxFile - 1}, {Kind: api.FShape, Node: 4, Other: 300}}},
		{"what is wrong behind it too", together(size(4, 256), node(3, func(n *api.Node) { n.Single = 2000 }), func(p *plate) { clear(p.Held[0]); clear(p.Held[4]) }), []api.Fault{{Kind: api.FShape, Node: 4, Other: 256}}},
	})
	keeps(t, "the longest link", together(size(4, 255), func(p *plate) { copy(p.Held[12], slices.Repeat([]byte{'/'}, 255)) }), sampleReport)
	keeps(t, "the shortest link", together(size(4, 1), func(p *plate) { clear(p.Held[12][1:]) }), sampleReport)
	for _, s := range []int{0, 1, 511, 512, 513, api.MaxFile - 1, api.MaxFile} {
		keeps(t, "a file of holes", size(6, s), sampleReport)
	}
}

// Each of the pointers of node 6, which has none in the sample.
func TestP1201Pointer(t *testing.T) {
	for _, pointer := range []int{1, 2, 3, 43, 44, 2047} {
		for i := range 10 {
			for _, size := range []int{0, 512 * i, 512*i + 1, api.MaxFile} {
				direct := node(6, func(n *api.Node) { n.Size, n.Direct[i] = size, pointer })
				breaks(t, 2, []change{{"direct", direct, []api.Fault{{Kind: api.FPointer, Node: 6, Index: i, Block: pointer}}}})
			}
		}
		single := node(6, func(n *api.Node) { n.Single = pointer })
		double := node(6, func(n *api.Node) { n.Double = pointer })
		breaks(t, 2, []change{
			{"single", single, []api.Fault{{Kind: api.FPointer, Node: 6, Index: 10, Block: pointer, Other: 1}}},
			{"double", double, []api.Fault{{Kind: api.FPointer, Node: 6, Index: 138, Block: pointer, Other: 2}}},
			{"both", together(single, double), []api.Fault{{Kind: api.FPointer, Node: 6, Index: 10, Block: pointer, Other: 1}, {Kind: api.FPointer, Node: 6, Index: 138, Block: pointer, Other: 2}}},
		})
	}
	for _, pointer := range []int{1, 3, 43, 1 << 16, 1 << 31, 1<<32 - 1} {
		for _, place := range []int{2, 3, 64, 127} {
			breaks(t, 2, []change{
				{"in the single block", point(7, place, pointer), []api.Fault{{Kind: api.FPointer, Node: 3, Index: 10 + place, Block: pointer}}},
				{"in the double block", point(9, place, pointer), []api.Fault{{Kind: api.FPointer, Node: 3, Index: 138 + 128*place, Block: pointer, Other: 1}}},
				{"in a leaf", point(10, place, pointer), []api.Fault{{Kind: api.FPointer, Node: 3, Index: 266 + place, Block: pointer}}},
			})
		}
	}
	last := together(node(6, func(n *api.Node) { n.Size, n.Owned, n.Direct[9] = 5120, 1, 42 }), bits(42))
	keeps(t, "the last block", last, api.Report{Files: 1, Dirs: 3, Links: 1, Orphans: 1, Used: 10})
}

// A pointer to a block that is owned already is not gone into, and owns nothing; the first one that is met owns it.
func TestP1201Twice(t *testing.T) {
	twice := func(number, index, block, depth int) api.Fault {
		return api.Fault{Kind: api.FTwice, Node: number, Index: index, Block: block, Other: depth}
	}
	owned := func(number, owned int) api.Fault {
		return api.Fault{Kind: api.FOwned, Node: number, Other: owned}
	}
	direct := func(number, i, block int) func(p *plate) {
		return node(number, func(n *api.Node) { n.Direct[i] = block })
	}
	single := func(number, block int) func(p *plate) {
		return node(number, func(n *api.Node) { n.Single = block })
	}
	double := func(number, block int) func(p *plate) {
		return node(number, func(n *api.Node) { n.Double = block })
	}
	breaks(t, 2, []change{
		{"in one node", direct(3, 9, 6), []api.Fault{twice(3, 9, 6, 0)}},
		{"in a later node", direct(6, 0, 6), []api.Fault{twice(6, 0, 6, 0)}},
		{"a link's in a later node", direct(5, 9, 12), []api.Fault{twice(5, 9, 12, 0)}},
		{"in an earlier node", direct(2, 1, 6), []api.Fault{twice(3, 0, 6, 0), {Kind: api.FBeyond, Node: 2, Index: 1, Block: 6}, owned(2, 2), owned(3, 5)}},
		{"an indirect block's, met before it", direct(3, 1, 7), []api.Fault{twice(3, 10, 7, 1), owned(3, 5)}},
		{"an indirect block's, met behind it", direct(6, 1, 7), []api.Fault{twice(6, 1, 7, 0)}},
		{"the double block as single one", single(3, 9), []api.Fault{twice(3, 138, 9, 2), owned(3, 3)}},
		{"the single block as double one", double(3, 7), []api.Fault{twice(3, 138, 7, 2), owned(3, 3)}},
		{"the single block of another node", single(6, 7), []api.Fault{twice(6, 10, 7, 1)}},
		{"the double block of another node", double(6, 9), []api.Fault{twice(6, 138, 9, 2)}},
		{"a leaf as single block", single(6, 10), []api.Fault{twice(6, 10, 10, 1)}},
		{"a data block in the single block", point(7, 5, 6), []api.Fault{twice(3, 15, 6, 0)}},
		{"the same block in the single block", point(7, 5, 8), []api.Fault{twice(3, 15, 8, 0)}},
		{"the single block in itself", point(7, 127, 7), []api.Fault{twice(3, 137, 7, 0)}},
		{"the double block in itself", point(9, 2, 9), []api.Fault{twice(3, 394, 9, 1)}},
		{"a leaf twice", point(9, 127, 10), []api.Fault{twice(3, 138+127*128, 10, 1)}},
		{"a leaf in itself", point(10, 127, 10), []api.Fault{twice(3, 393, 10, 0)}},
		{"the single block as leaf", point(9, 0, 7), []api.Fault{twice(3, 138, 7, 1)}},
		{"the single block in a leaf", point(10, 3, 7), []api.Fault{twice(3, 269, 7, 0)}},
		{"three times", together(direct(6, 0, 12), direct(6, 1, 12), single(6, 12)), []api.Fault{twice(6, 0, 12, 0), twice(6, 1, 12, 0), twice(6, 10, 12, 1)}},
		{"out of range twice", together(direct(6, 0, 43), direct(6, 1, 43)), []api.Fault{{Kind: api.FPointer, Node: 6, Index: 0, Block: 43}, {Kind: api.FPointer, Node: 6, Index: 1, Block: 43}}},
	})
}

// An indirect block without a pointer; one whose pointers are all wrong is not such a one.
func TestP1201Bare(t *testing.T) {
	bare := func(index, block, depth int) api.Fault {
		return api.Fault{Kind: api.FBare, Node: 3, Index: index, Block: block, Other: depth}
	}
	breaks(t, 2, []change{
		{"the single block", point(7, 0, 0), []api.Fault{bare(10, 7, 1), {Kind: api.FOwned, Node: 3, Other: 5}}},
		{"the double block", point(9, 1, 0), []api.Fault{bare(138, 9, 2), {Kind: api.FOwned, Node: 3, Other: 4}}},
		{"a leaf", point(10, 0, 0), []api.Fault{bare(266, 10, 1), {Kind: api.FOwned, Node: 3, Other: 5}}},
		{"the single block and a leaf", together(point(7, 0, 0), point(10, 0, 0)), []api.Fault{bare(10, 7, 1), bare(266, 10, 1), {Kind: api.FOwned, Node: 3, Other: 4}}},
		{"a second leaf", together(point(9, 127, 20), node(3, func(n *api.Node) { n.Owned = 7 })), []api.Fault{bare(138+127*128, 20, 1)}},
		{"behind the size", node(6, func(n *api.Node) { n.Owned, n.Double = 1, 20 }), []api.Fault{{Kind: api.FBare, Node: 6, Index: 138, Block: 20, Other: 2}}},
		{"a pointer out of range alone", together(point(7, 0, 43), node(3, func(n *api.Node) { n.Owned = 5 })), []api.Fault{{Kind: api.FPointer, Node: 3, Index: 10, Block: 43}}},
		{"a block twice alone", together(point(7, 0, 6), node(3, func(n *api.Node) { n.Owned = 5 })), []api.Fault{{Kind: api.FTwice, Node: 3, Index: 10, Block: 6}}},
	})
	for _, place := range []int{1, 64, 127} { // a pointer at any place will do
		keeps(t, "another place", together(point(7, 0, 0), point(7, place, 8)), sampleReport)
	}
}

// A data block lies behind the size where its first byte does; an indirect one never.
func TestP1201Beyond(t *testing.T) {
	beyond := func(index, block int) api.Fault {
		return api.Fault{Kind: api.FBeyond, Node: 3, Index: index, Block: block}
	}
	size := func(size int) func(p *plate) { return node(3, func(n *api.Node) { n.Size = size }) }
	clean := func(p *plate) { clear(p.Held[6]); clear(p.Held[8]); clear(p.Held[11]) }
	for _, c := range []struct {
		size   int
		faults []api.Fault
	}{
		{0, []api.Fault{beyond(0, 6), beyond(10, 8), beyond(266, 11)}},
		{1, []api.Fault{beyond(10, 8), beyond(266, 11)}},
		{5119, []api.Fault{beyond(10, 8), beyond(266, 11)}},
		{5120, []api.Fault{beyond(10, 8), beyond(266, 11)}},
		{5121, []api.Fault{beyond(266, 11)}},
		{512 * 266, []api.Fault{beyond(266, 11)}},
	} {
		breaks(t, 2, []change{{"a size within", together(clean, size(c.size)), c.faults}})
	}
	for _, s := range []int{512*266 + 1, 512 * 267, 512*267 + 1, api.MaxFile} {
		keeps(t, "a size behind all", together(clean, size(s)), sampleReport)
	}
	far := together(clean, size(api.MaxFile-512), point(9, 127, 20), point(20, 127, 21), node(3, func(n *api.Node) { n.Owned = 8 }))
	breaks(t, 2, []change{{"the last index", far, []api.Fault{beyond(api.MaxIndex-1, 21)}}})
	keeps(t, "the last index within", together(far, size(api.MaxFile-511), bits(20, 21)), api.Report{Files: 1, Dirs: 3, Links: 1, Orphans: 1, Used: 11})
	breaks(t, 2, []change{
		{"a directory", together(node(2, func(n *api.Node) { n.Size = 0 })), []api.Fault{{Kind: api.FBeyond, Node: 2, Index: 0, Block: 5}}},
		{"a link", together(node(4, func(n *api.Node) { n.Owned, n.Direct[1] = 2, 20 })), []api.Fault{{Kind: api.FBeyond, Node: 4, Index: 1, Block: 20}}},
	})
}

func TestP1201Owned(t *testing.T) {
	for number, right := range map[int]int{1: 1, 2: 1, 3: 6, 4: 1, 5: 0, 6: 0} {
		for _, owned := range []int{0, right - 1, right + 1, 2048} {
			if owned >= 0 && owned != right {
				breaks(t, 2, []change{{"another number", node(number, func(n *api.Node) { n.Owned = owned }), []api.Fault{{Kind: api.FOwned, Node: number, Other: right}}}})
			}
		}
	}
}

// The bytes behind the size, at every depth at which the size can end.
func TestP1201Tail(t *testing.T) {
	tail := func(number, index, block int) []api.Fault {
		return []api.Fault{{Kind: api.FTail, Node: number, Index: index, Block: block}}
	}
	set := func(block, place int) func(p *plate) { return func(p *plate) { p.Held[block][place] = 1 } }
	for _, place := range []int{100, 101, 300, 511} {
		breaks(t, 2, []change{{"in a leaf", set(11, place), tail(3, 266, 11)}})
	}
	keeps(t, "ahead of the size", set(11, 99), sampleReport)
	for index, place := range map[int]int{0: 511, 5: 1, 9: 200} {
		ends := node(6, func(n *api.Node) { n.Size, n.Owned, n.Direct[index] = 512*index+place, 1, 20 })
		breaks(t, 2, []change{{"at a direct pointer", together(ends, set(20, place)), tail(6, index, 20)}})
		keeps(t, "ahead of it", together(ends, set(20, place-1), bits(20)), api.Report{Files: 1, Dirs: 3, Links: 1, Orphans: 1, Used: 10})
	}
	breaks(t, 2, []change{
		{"in the single block", together(node(6, func(n *api.Node) { n.Size, n.Owned, n.Single = 512*137+8, 2, 20 }), point(20, 127, 21), set(21, 8)), tail(6, 137, 21)},
		{"a link's", set(12, 3), tail(4, 0, 12)},
		{"a link's last byte", set(12, 511), tail(4, 0, 12)},
	})
	keeps(t, "the size ends with a block", node(3, func(n *api.Node) { n.Size = 512 * 267 }), sampleReport)
	keeps(t, "the size ends in a hole", node(3, func(n *api.Node) { n.Size = 512*267 + 1 }), sampleReport)
	keeps(t, "bytes in no node's block", set(20, 0), sampleReport)
	breaks(t, 2, []change{ // node 6 does not own what its pointer names
		{"a block of another node", node(6, func(n *api.Node) { n.Size, n.Direct[0] = 1, 6 }), []api.Fault{{Kind: api.FTwice, Node: 6, Index: 0, Block: 6}}},
	})
}

func TestP1201AllOfPointers(t *testing.T) {
	breaks(t, 2, []change{{"one of each", together(
		node(6, func(n *api.Node) { n.Size, n.Owned, n.Direct, n.Single = 3, 9, [10]int{20, 43, 6, 21}, 22 }),
		func(p *plate) { p.Held[20][3] = 1 },
		func(p *plate) { clear(p.Held[0]); clear(p.Held[4]) }, // of later phases
	), []api.Fault{
		{Kind: api.FPointer, Node: 6, Index: 1, Block: 43},
		{Kind: api.FTwice, Node: 6, Index: 2, Block: 6},
		{Kind: api.FBeyond, Node: 6, Index: 3, Block: 21},
		{Kind: api.FBare, Node: 6, Index: 10, Block: 22, Other: 1},
		{Kind: api.FOwned, Node: 6, Other: 3},
		{Kind: api.FTail, Node: 6, Index: 0, Block: 20},
	}}})
}

// Every bit of both bitmaps, set or not.
func TestP1201Bits(t *testing.T) {
	p := sample(t)
	d, _, tx := p.begun()
	for bitmap := range 2 {
		for bit := range 4096 {
			p.Turn(bitmap, bit)
			is(t, "Put", tx.Put(bitmap, p.Held[bitmap]), api.OK)
			now := int(p.Held[bitmap][bit/8] >> (bit % 8) & 1)
			fault := api.Fault{Kind: api.FBlockBit, Block: bit, Other: now}
			if bitmap == 1 {
				fault = api.Fault{Kind: api.FNodeBit, Node: bit + 1, Other: now}
			}
			if should := bitmap == 0 && bit <= 12 || bitmap == 1 && bit < 6; should == (now == 1) {
				t.Fatalf("bit %d of bitmap %d is %d in the sample", bit, bitmap, 1-now)
			}
			p.asks(d, tx, 1+bit%8, "a bit", faulty(3, fault))
			p.Turn(bitmap, bit)
		}
		is(t, "Put", tx.Put(bitmap, p.Held[bitmap]), api.OK)
	}
	p.asks(d, tx, 8, "all bits right", sampleReport)
}

func TestP1201AllBits(t *testing.T) {
	p := sample(t)
	var faults []api.Fault
	for b := range 4096 {
		faults = append(faults, api.Fault{Kind: api.FBlockBit, Block: b, Other: int(^p.Held[0][b/8]>>(b%8)) & 1})
	}
	for k := range 4096 {
		faults = append(faults, api.Fault{Kind: api.FNodeBit, Node: k + 1, Other: int(^p.Held[1][k/8]>>(k%8)) & 1})
	}
	for i := range 512 {
		p.Held[0][i], p.Held[1][i] = ^p.Held[0][i], ^p.Held[1][i]
	}
	clear(p.Held[4]) // of a later phase
	p.runs("all bits turned", faulty(3, faults...))
}
