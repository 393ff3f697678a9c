package salvage_test

import (
	"bytes"
	"math"
	"slices"
	"testing"

	"vellum/api"
	"vellum/salvage"
	"vellum/site"
	"vellum/trial"
)

// refused asks that Items, and Image behind it, answer an error, and nothing beside it.
func refused(t *testing.T, what string, image []byte, s api.Super, want api.Errno) {
	t.Helper()
	asWords(t, what, image, s)
	items, losses, e := salvage.Items(image, s)
	if e != want || len(items)+len(losses) > 0 {
		t.Errorf("P1702: %s: Items: %d items, %d losses, %v, want %v", what, len(items), len(losses), e, want)
	}
	for _, to := range []api.Super{small, {}} {
		if made, n, e := salvage.Image(image, s, to); e != want || len(made) > 0 || n != 0 {
			t.Errorf("P1703: %s: Image to %v: %d bytes, %d, %v, want %v", what, to, len(made), n, e, want)
		}
	}
}

func TestP1702Errors(t *testing.T) {
	wrong := []api.Super{
		{Sectors: 64, Log: 17, Nodes: 8}, {Sectors: 64, Log: 18, Nodes: 6}, {Sectors: 63, Log: 18, Nodes: 8}, {Sectors: 65, Log: 18, Nodes: 8}, {Sectors: 64, Log: 50, Nodes: 40},
		{Sectors: 64}, {Log: 18}, {Nodes: 8}, {Sectors: 64, Log: 18}, {Log: 18, Nodes: 8}, {Sectors: -64, Log: 18, Nodes: 8},
		{Sectors: math.MaxInt, Log: math.MaxInt, Nodes: math.MaxInt}, {Sectors: math.MinInt, Log: math.MinInt, Nodes: math.MinInt}, {Sectors: 64, Log: 18 + 1<<32, Nodes: 8},
	}
	image := imaged(trial.Sample(t))
	for _, s := range wrong {
		refused(t, "a wrong geometry", image, s, api.ErrGeometry)
	}
	for length, e := range map[int]api.Errno{0: api.ErrSectors, 1: api.ErrLength, 511: api.ErrLength, 512*2048 + 1: api.ErrLength, 512 * 2049: api.ErrSectors} {
		for _, s := range append(wrong, api.Super{}, small) {
			refused(t, "a wrong length", make([]byte, length), s, e)
		}
	}
	refused(t, "no geometry", make([]byte, 512), api.Super{}, api.ErrCorrupt)
	refused(t, "no geometry", make([]byte, 512*64), api.Super{}, api.ErrCorrupt)
	refused(t, "of a lone sector", make([]byte, 512), small, api.ErrGeometry)
	refused(t, "nothing", nil, api.Super{}, api.ErrSectors)
}

func TestP1702Examples(t *testing.T) {
	image := made(t, small)
	for _, s := range []api.Super{{}, small} {
		tells(t, "example 1", image, s, nil)
	}
	fill(image, 0, 0)
	tells(t, "example 1, no superblock", image, small, nil, api.Loss{Kind: api.LSuper})
	tells(t, "example 1, no superblock", image, api.Super{}, nil, api.Loss{Kind: api.LSuper})
	fill(image, 1, 0)
	fill(image, 2, 0)
	for _, s := range []api.Super{{}, small} {
		tells(t, "example 1, no anchors", image, s, nil, api.Loss{Kind: api.LSuper}, api.Loss{Kind: api.LLog, Other: 6})
	}
	refused(t, "example 2", make([]byte, 512), api.Super{}, api.ErrCorrupt)
	refused(t, "example 2", make([]byte, 511), api.Super{}, api.ErrLength)
	refused(t, "example 2", nil, api.Super{}, api.ErrSectors)
	tells(t, "example 2", make([]byte, 512*25), least, nil, api.Loss{Kind: api.LSuper}, api.Loss{Kind: api.LLog, Other: 6}, api.Loss{Kind: api.LRoot})
	refused(t, "example 2", make([]byte, 512*25), api.Super{Sectors: 24, Log: 18, Nodes: 4}, api.ErrGeometry)

	deep := func() []byte {
		return made(t, small, site.Mkdir("/d"), site.Create("/d/f"), site.Write("/d/f", 0, "hello"))
	}
	image = deep()
	fill(image, 21+4, 0)
	tells(t, "example 3", image, api.Super{}, []string{"/lost/", "/lost/n2/", "/lost/n2/f 5 0-1"}, api.Loss{Kind: api.LLoose, Node: 2})
	image = deep()
	fill(image, 21+2, 255)
	tells(t, "example 4", image, api.Super{}, nil, api.Loss{Kind: api.LRoot}, api.Loss{Kind: api.LNode, Node: 1}, api.Loss{Kind: api.LNode, Node: 2}, api.Loss{Kind: api.LNode, Node: 3}, api.Loss{Kind: api.LNode, Node: 4})
	image = deep()
	fill(image, 21+5, 1)
	var losses []api.Loss
	for i := range 8 {
		losses = append(losses, api.Loss{Kind: api.LEntry, Node: 2, Index: i})
	}
	tells(t, "example 5", image, api.Super{}, []string{"/d/", "/lost/", "/lost/n3 5 0-1"}, append(losses, api.Loss{Kind: api.LLoose, Node: 3})...)
}

// The sample itself, by whatever geometry is said or found.
func TestP1702Sample(t *testing.T) {
	p := trial.Sample(t)
	for _, s := range []api.Super{{}, small} {
		items := tells(t, "the sample", imaged(p), s, sampleLines())
		want := slices.Concat(trial.Fill('x'), trial.Fill('x'), trial.Fill('y')[:100], make([]byte, 412))
		if len(items) == 5 && !bytes.Equal(items[2].Data, want) {
			t.Errorf("P1702: the file's bytes are others")
		}
	}
	image := imaged(p)
	fill(image, 21, 9)
	fill(image, 22, 9)
	tells(t, "the bitmaps are not asked", image, small, sampleLines())
}

// The superblock must be just that of the geometry by which is read.
func TestP1702Super(t *testing.T) {
	lost := api.Loss{Kind: api.LSuper}
	image := imaged(trial.Sample(t))
	image[20] = 1
	tells(t, "a broken superblock", image, small, sampleLines(), lost)
	image = imaged(trial.Sample(t))
	tells(t, "by another geometry", image, api.Super{Sectors: 64, Log: 18, Nodes: 4}, []string{"/d/", "/d/g 136292 0-1 10-11 266-267", "/f = /d/g", "/l -> d/g"}, lost, api.Loss{Kind: api.LTarget, Node: 2, Index: 3, Other: 5})
	copy(image, made(t, wide)[:512])
	tells(t, "of more sectors", image, small, sampleLines(), lost)
}

func TestP1702Table(t *testing.T) {
	told(t, []change{
		{"a broken slot without a node", func(p *trial.Plate) { p.Slot(8)[127] = 1 }, sampleLines(), []api.Loss{{Kind: api.LNode, Node: 8}}},
		{"a broken file", func(p *trial.Plate) { p.Slot(3)[30]++ }, []string{lineD, lineE, lineL}, []api.Loss{{Kind: api.LNode, Node: 3}, {Kind: api.LTarget, Node: 1, Index: 1, Other: 3}, {Kind: api.LTarget, Node: 2, Index: 0, Other: 3}}},
		{"a broken directory", func(p *trial.Plate) { p.Slot(2)[30]++ }, []string{"/f 136292 0-1 10-11 266-267", "/l -> d/g", "/lost/", "/lost/n5/"}, []api.Loss{{Kind: api.LNode, Node: 2}, {Kind: api.LTarget, Node: 1, Index: 0, Other: 2}, {Kind: api.LLoose, Node: 5}}},
		{"a broken root", func(p *trial.Plate) { p.Slot(1)[30]++ }, []string{"/lost/", "/lost/n2/", "/lost/n2/e/", "/lost/n2/g 136292 0-1 10-11 266-267", "/lost/n4 -> d/g"}, []api.Loss{{Kind: api.LRoot}, {Kind: api.LNode, Node: 1}, {Kind: api.LLoose, Node: 2}, {Kind: api.LLoose, Node: 4}}},
		{"an empty slot of a file", func(p *trial.Plate) { clear(p.Slot(3)) }, []string{lineD, lineE, lineL}, []api.Loss{{Kind: api.LTarget, Node: 1, Index: 1, Other: 3}, {Kind: api.LTarget, Node: 2, Index: 0, Other: 3}}},
		{"an empty slot of the root", func(p *trial.Plate) { clear(p.Slot(1)) }, []string{"/lost/", "/lost/n2/", "/lost/n2/e/", "/lost/n2/g 136292 0-1 10-11 266-267", "/lost/n4 -> d/g"}, []api.Loss{{Kind: api.LRoot}, {Kind: api.LLoose, Node: 2}, {Kind: api.LLoose, Node: 4}}},
		{"counts of links, parents and owned blocks that are wrong", func(p *trial.Plate) {
			for k := 1; k <= 5; k++ {
				p.Change(k, func(n *api.Node) {
					n.Links, n.Owned = 0, 77
					if n.Kind == api.KDir {
						n.Parent = 900
					}
				})
			}
		}, sampleLines(), nil},
		{"an orphan with a broken slot", func(p *trial.Plate) { p.Slot(6)[0] = 9 }, sampleLines(), []api.Loss{{Kind: api.LNode, Node: 6}}},
	})
}

func TestP1702Pointers(t *testing.T) {
	direct := func(node, i, block int) func(p *trial.Plate) {
		return func(p *trial.Plate) { p.Change(node, func(n *api.Node) { n.Direct[i] = block }) }
	}
	point := func(block, place, pointer int) func(p *trial.Plate) {
		return func(p *trial.Plate) { p.Point(block, place, pointer) }
	}
	node := func(k int, how func(n *api.Node)) func(p *trial.Plate) {
		return func(p *trial.Plate) { p.Change(k, how) }
	}
	pointer := func(index, block, depth int) api.Loss {
		return api.Loss{Kind: api.LPointer, Node: 3, Index: index, Block: block, Other: depth}
	}
	twice := func(node, index, block, depth int) api.Loss {
		return api.Loss{Kind: api.LTwice, Node: node, Index: index, Block: block, Other: depth}
	}
	told(t, []change{
		{"the first data block", direct(3, 1, 13), with("136292 0-2 10-11 266-267"), nil},
		{"the last block", direct(3, 1, 42), with("136292 0-2 10-11 266-267"), nil},
		{"a direct pointer below the data", direct(3, 0, 3), with("136292 10-11 266-267"), []api.Loss{pointer(0, 3, 0)}},
		{"a direct pointer to block 1", direct(3, 0, 1), with("136292 10-11 266-267"), []api.Loss{pointer(0, 1, 0)}},
		{"a direct pointer behind the blocks", direct(3, 9, 43), with("136292 0-1 10-11 266-267"), []api.Loss{pointer(9, 43, 0)}},
		{"a direct pointer far behind the blocks", direct(3, 0, 2000), with("136292 10-11 266-267"), []api.Loss{pointer(0, 2000, 0)}},
		{"no single block", node(3, func(n *api.Node) { n.Single = 0 }), with("136292 0-1 266-267"), nil},
		{"a single pointer out of range", node(3, func(n *api.Node) { n.Single = 2047 }), with("136292 0-1 266-267"), []api.Loss{pointer(10, 2047, 1)}},
		{"a double pointer out of range", node(3, func(n *api.Node) { n.Double = 2 }), with("136292 0-1 10-11"), []api.Loss{pointer(138, 2, 2)}},
		{"a pointer of the single block out of range", point(7, 127, 1<<32-1), with("136292 0-1 10-11 266-267"), []api.Loss{pointer(137, 1<<32-1, 0)}},
		{"a leaf out of range", point(9, 127, 43), with("136292 0-1 10-11 266-267"), []api.Loss{pointer(138+128*127, 43, 1)}},
		{"the only leaf out of range", point(9, 1, 1), with("136292 0-1 10-11"), []api.Loss{pointer(266, 1, 1)}},
		{"a pointer of a leaf out of range", point(10, 127, 1<<31), with("136292 0-1 10-11 266-267"), []api.Loss{pointer(266+127, 1<<31, 0)}},
		{"a block twice in one node", direct(3, 1, 6), with("136292 0-1 10-11 266-267"), []api.Loss{twice(3, 1, 6, 0)}},
		{"a block of a node ahead", direct(3, 0, 5), with("136292 10-11 266-267"), []api.Loss{twice(3, 0, 5, 0)}},
		{"a block of a node behind", direct(3, 1, 12), []string{lineD, lineE, "/d/g 136292 0-2 10-11 266-267", lineF}, []api.Loss{twice(4, 0, 12, 0), {Kind: api.LText, Node: 4}}},
		{"a data block that is the single block", node(3, func(n *api.Node) { n.Direct[0] = 7 }), with("136292 0-1 266-267"), []api.Loss{twice(3, 10, 7, 1)}},
		{"a single block that is a data block", node(3, func(n *api.Node) { n.Single = 6 }), with("136292 0-1 266-267"), []api.Loss{twice(3, 10, 6, 1)}},
		{"a double block that is the single block", node(3, func(n *api.Node) { n.Double = 7 }), with("136292 0-1 10-11"), []api.Loss{twice(3, 138, 7, 2)}},
		{"a single block that names itself", point(7, 1, 7), with("136292 0-1 10-11 266-267"), []api.Loss{twice(3, 11, 7, 0)}},
		{"a double block that names itself", point(9, 0, 9), with("136292 0-1 10-11 266-267"), []api.Loss{twice(3, 138, 9, 1)}},
		{"a leaf twice", point(9, 2, 10), with("136292 0-1 10-11 266-267"), []api.Loss{twice(3, 138+256, 10, 1)}},
		{"a leaf that names the double block", point(10, 5, 9), with("136292 0-1 10-11 266-267"), []api.Loss{twice(3, 271, 9, 0)}},
		{"a pointer that is out of range twice is no second one", func(p *trial.Plate) { direct(3, 1, 50)(p); direct(3, 2, 50)(p) }, with("136292 0-1 10-11 266-267"), []api.Loss{pointer(1, 50, 0), pointer(2, 50, 0)}},
		{"a block three times", func(p *trial.Plate) { direct(3, 1, 6)(p); direct(3, 2, 6)(p) }, with("136292 0-1 10-11 266-267"), []api.Loss{twice(3, 1, 6, 0), twice(3, 2, 6, 0)}},
		{"a block that was let go is named all the same", func(p *trial.Plate) {
			p.Change(3, func(n *api.Node) { n.Size = 0 })
			p.Change(4, func(n *api.Node) { n.Direct[0] = 6 })
		}, []string{lineD, lineE, "/d/g 0", lineF}, []api.Loss{twice(4, 0, 6, 0), {Kind: api.LBeyond, Node: 3, Index: 0, Block: 6}, {Kind: api.LBeyond, Node: 3, Index: 10, Block: 8}, {Kind: api.LBeyond, Node: 3, Index: 266, Block: 11}, {Kind: api.LText, Node: 4}}},
		{"a block of a file that is an orphan", func(p *trial.Plate) { p.Change(6, func(n *api.Node) { n.Size, n.Direct[0] = 5, 6 }) }, sampleLines(), []api.Loss{twice(6, 0, 6, 0)}},
		{"an indirect block of zeros", func(p *trial.Plate) { clear(p.Held[7]) }, with("136292 0-1 266-267"), nil},
		{"an indirect block of one byte", func(p *trial.Plate) { copy(p.Held[10], trial.Fill(7)) }, with("136292 0-1 10-11"), func() []api.Loss {
			var list []api.Loss
			for i := range 128 {
				list = append(list, pointer(266+i, 0x07070707, 0))
			}
			return list
		}()},
		{"indexes side by side", func(p *trial.Plate) { direct(3, 9, 20)(p); direct(3, 8, 21)(p); point(7, 1, 22)(p) }, with("136292 0-1 8-12 266-267"), nil},
		{"the last of the single block and the first of the first leaf", func(p *trial.Plate) {
			point(7, 127, 20)(p)
			point(9, 0, 21)(p)
			point(21, 0, 22)(p)
			point(21, 127, 23)(p)
		}, with("136292 0-1 10-11 137-139 265-267"), nil},
	})
}

func TestP1702Sizes(t *testing.T) {
	size := func(k, size int) func(p *trial.Plate) {
		return func(p *trial.Plate) { p.Change(k, func(n *api.Node) { n.Size = size }) }
	}
	beyond := func(index, block int) api.Loss {
		return api.Loss{Kind: api.LBeyond, Node: 3, Index: index, Block: block}
	}
	tail := func(node, index, block int) api.Loss {
		return api.Loss{Kind: api.LTail, Node: node, Index: index, Block: block}
	}
	told(t, []change{
		{"a greater size", size(3, 512*266+101), with("136293 0-1 10-11 266-267"), nil},
		{"the greatest size", size(3, api.MaxFile), with("8459264 0-1 10-11 266-267"), nil},
		{"bytes behind the size", size(3, 512*266+99), with("136291 0-1 10-11 266-267"), []api.Loss{tail(3, 266, 11)}},
		{"one byte of the last block", size(3, 512*266+1), with("136193 0-1 10-11 266-267"), []api.Loss{tail(3, 266, 11)}},
		{"a block at the size", size(3, 512*266), with("136192 0-1 10-11"), []api.Loss{beyond(266, 11)}},
		{"a block behind the size", size(3, 512*266-1), with("136191 0-1 10-11"), []api.Loss{beyond(266, 11)}},
		{"a size that ends with a block", size(3, 512*11), with("5632 0-1 10-11"), []api.Loss{beyond(266, 11)}},
		{"a size that ends in the block ahead", size(3, 512*11-1), with("5631 0-1 10-11"), []api.Loss{beyond(266, 11), tail(3, 10, 8)}},
		{"blocks behind the size, and none within it", size(3, 0), with("0"), []api.Loss{beyond(0, 6), beyond(10, 8), beyond(266, 11)}},
		{"a size that ends in a hole", size(3, 512*5+7), with("2567 0-1"), []api.Loss{beyond(10, 8), beyond(266, 11)}},
		{"a last byte behind the size", func(p *trial.Plate) { p.Held[11][511] = 1 }, with("136292 0-1 10-11 266-267"), []api.Loss{tail(3, 266, 11)}},
		{"a first byte behind the size", func(p *trial.Plate) { p.Held[11][100] = 1 }, with("136292 0-1 10-11 266-267"), []api.Loss{tail(3, 266, 11)}},
		{"bytes behind a text", func(p *trial.Plate) { p.Held[12][3] = 'x' }, sampleLines(), []api.Loss{tail(4, 0, 12)}},
		{"bytes behind the size of an orphan", func(p *trial.Plate) {
			p.Change(6, func(n *api.Node) { n.Size, n.Direct[0] = 5, 20 })
			copy(p.Held[20], "orphan")
		}, sampleLines(), []api.Loss{tail(6, 0, 20)}},
	})
	p := trial.Sample(t)
	size(3, 512*266+50)(p)
	items, _ := asWords(t, "cut off", imaged(p), small)
	if want := append(trial.Fill('y')[:50], make([]byte, 462)...); !bytes.Equal(items[2].Data[1024:], want) {
		t.Errorf("P1702: the bytes behind the size are told")
	}
}

// A directory whose size ends within a block: what lies behind counts as zeros, so that a slot may break, and those behind it are empty.
func TestP1702DirTail(t *testing.T) {
	size := func(size int) func(p *trial.Plate) {
		return func(p *trial.Plate) { p.Change(2, func(n *api.Node) { n.Size = size }) }
	}
	loose := api.Loss{Kind: api.LLoose, Node: 5}
	tail := api.Loss{Kind: api.LTail, Node: 2, Index: 0, Block: 5}
	told(t, []change{
		{"behind the last entry", size(256), sampleLines(), nil},
		{"within the last entry's sum", size(255), []string{lineD, "/d/g 136292 0-1 10-11 266-267", lineF, lineL, "/lost/", "/lost/n5/"}, []api.Loss{tail, {Kind: api.LEntry, Node: 2, Index: 3}, loose}},
		{"at the last entry", size(192), []string{lineD, "/d/g 136292 0-1 10-11 266-267", lineF, lineL, "/lost/", "/lost/n5/"}, []api.Loss{tail, loose}},
		{"within the first entry", size(10), []string{lineD, "/f 136292 0-1 10-11 266-267", lineL, "/lost/", "/lost/n5/"}, []api.Loss{tail, {Kind: api.LEntry, Node: 2, Index: 0}, loose}},
		{"at the first entry", size(0), []string{lineD, "/f 136292 0-1 10-11 266-267", lineL, "/lost/", "/lost/n5/"}, []api.Loss{{Kind: api.LBeyond, Node: 2, Index: 0, Block: 5}, loose}},
		{"behind all slots", size(512 + 64), sampleLines(), []api.Loss{{Kind: api.LHole, Node: 2, Other: 1}}},
	})
}

func TestP1702Holes(t *testing.T) {
	hole := func(node, holes int) api.Loss { return api.Loss{Kind: api.LHole, Node: node, Other: holes} }
	told(t, []change{
		{"one hole at the end", func(p *trial.Plate) { p.Change(2, func(n *api.Node) { n.Size = 1024 }) }, sampleLines(), []api.Loss{hole(2, 1)}},
		{"a byte of a hole", func(p *trial.Plate) { p.Change(2, func(n *api.Node) { n.Size = 513 }) }, sampleLines(), []api.Loss{hole(2, 1)}},
		{"as many as can be", func(p *trial.Plate) { p.Change(2, func(n *api.Node) { n.Size = api.MaxFile }) }, sampleLines(), []api.Loss{hole(2, 16521)}},
		{"all of it", func(p *trial.Plate) { p.Change(5, func(n *api.Node) { n.Size = api.MaxFile }) }, sampleLines(), []api.Loss{hole(5, 16522)}},
		{"a hole ahead", func(p *trial.Plate) {
			p.Change(2, func(n *api.Node) { n.Size, n.Direct[0], n.Direct[2] = 1536, 0, 5 })
		}, sampleLines(), []api.Loss{hole(2, 2)}},
		{"a pointer out of range is a hole", func(p *trial.Plate) { p.Change(2, func(n *api.Node) { n.Direct[0] = 99 }) }, []string{lineD, "/f 136292 0-1 10-11 266-267", lineL, "/lost/", "/lost/n5/"}, []api.Loss{{Kind: api.LPointer, Node: 2, Block: 99}, hole(2, 1), {Kind: api.LLoose, Node: 5}}},
		{"another's block is a hole", func(p *trial.Plate) { p.Change(2, func(n *api.Node) { n.Direct[0] = 4 }) }, []string{lineD, "/f 136292 0-1 10-11 266-267", lineL, "/lost/", "/lost/n5/"}, []api.Loss{{Kind: api.LTwice, Node: 2, Block: 4}, hole(2, 1), {Kind: api.LLoose, Node: 5}}},
		{"a block behind the size fills none", func(p *trial.Plate) {
			p.Change(2, func(n *api.Node) { n.Size, n.Direct[2] = 1024, 20 })
		}, sampleLines(), []api.Loss{{Kind: api.LBeyond, Node: 2, Index: 2, Block: 20}, hole(2, 1)}},
		{"holes in a file are none", func(p *trial.Plate) { p.Change(6, func(n *api.Node) { n.Size = 5000 }) }, sampleLines(), nil},
	})
}

func TestP1702Texts(t *testing.T) {
	size := func(size int) func(p *trial.Plate) {
		return func(p *trial.Plate) { p.Change(4, func(n *api.Node) { n.Size = size }) }
	}
	none := []string{lineD, lineE, lineG, lineF}
	text := api.Loss{Kind: api.LText, Node: 4}
	told(t, []change{
		{"a shorter text", func(p *trial.Plate) { size(1)(p); clear(p.Held[12][1:]) }, append(none, "/l -> d"), nil},
		{"the longest text", func(p *trial.Plate) { size(255)(p); copy(p.Held[12], trial.Fill('/')[:255]) }, append(none, "/l -> "+string(trial.Fill('/')[:255])), nil},
		{"any bytes", func(p *trial.Plate) { copy(p.Held[12], "\xff\x01\n") }, append(none, "/l -> \xff\x01\n"), nil},
		{"too long a text", func(p *trial.Plate) { size(256)(p); copy(p.Held[12], trial.Fill('/')[:256]) }, none, []api.Loss{text}},
		{"far too long a text", func(p *trial.Plate) { size(5000)(p); copy(p.Held[12], trial.Fill('/')) }, none, []api.Loss{text}},
		{"no text", size(0), none, []api.Loss{{Kind: api.LBeyond, Node: 4, Block: 12}, text}},
		{"no text and no block", func(p *trial.Plate) { size(0)(p); p.Change(4, func(n *api.Node) { n.Direct[0] = 0 }) }, none, []api.Loss{text}},
		{"a zero at its end", size(4), none, []api.Loss{text}},
		{"a zero at its beginning", func(p *trial.Plate) { p.Held[12][0] = 0 }, none, []api.Loss{text}},
		{"a zero within it", func(p *trial.Plate) { p.Held[12][1] = 0 }, none, []api.Loss{text}},
		{"no block", func(p *trial.Plate) { p.Change(4, func(n *api.Node) { n.Direct[0] = 0 }) }, none, []api.Loss{text}},
		{"a block elsewhere", func(p *trial.Plate) { p.Change(4, func(n *api.Node) { n.Direct[0], n.Direct[1] = 0, 12 }) }, none, []api.Loss{{Kind: api.LBeyond, Node: 4, Index: 1, Block: 12}, text}},
		{"no text, and no name", func(p *trial.Plate) { size(0)(p); clear(p.Held[4][128:192]) }, none, []api.Loss{{Kind: api.LBeyond, Node: 4, Block: 12}, text}},
		{"a text, and no name", func(p *trial.Plate) { clear(p.Held[4][128:192]) }, append(none, "/lost/", "/lost/n4 -> d/g"), []api.Loss{{Kind: api.LLoose, Node: 4}}},
		{"a text, no name and no links", func(p *trial.Plate) {
			clear(p.Held[4][128:192])
			p.Change(4, func(n *api.Node) { n.Links = 0 })
		}, append(none, "/lost/", "/lost/n4 -> d/g"), []api.Loss{{Kind: api.LLoose, Node: 4}}},
	})
}

func TestP1702Entries(t *testing.T) {
	entry := func(block, slot, node, kind int, name string) func(p *trial.Plate) {
		return func(p *trial.Plate) { p.Entry(block, slot, api.Entry{Node: node, Kind: kind, Name: name}) }
	}
	target := func(slot, node int) api.Loss { return api.Loss{Kind: api.LTarget, Node: 1, Index: slot, Other: node} }
	told(t, []change{
		{"a broken slot without an entry", func(p *trial.Plate) { p.Held[4][511] = 1 }, sampleLines(), []api.Loss{{Kind: api.LEntry, Node: 1, Index: 7}}},
		{"a broken entry", func(p *trial.Plate) { p.Held[4][64+20] = 1 }, []string{lineD, lineE, "/d/g 136292 0-1 10-11 266-267", lineL}, []api.Loss{{Kind: api.LEntry, Node: 1, Index: 1}}},
		{"a name twice", entry(4, 5, 6, api.KFile, "f"), sampleLines(), []api.Loss{{Kind: api.LName, Node: 1, Index: 5}}},
		{"a name three times", func(p *trial.Plate) { entry(4, 5, 6, api.KFile, "f")(p); entry(4, 7, 3, api.KFile, "f")(p) }, sampleLines(), []api.Loss{{Kind: api.LName, Node: 1, Index: 5}, {Kind: api.LName, Node: 1, Index: 7}}},
		{"the same name elsewhere", entry(5, 5, 6, api.KFile, "f"), []string{lineD, lineE, "/d/f 0", lineG, lineF, lineL}, nil},
		{"a name of an entry that leads nowhere, twice", func(p *trial.Plate) { entry(4, 4, 8, api.KFile, "x")(p); entry(4, 5, 6, api.KFile, "x")(p) }, sampleLines(), []api.Loss{{Kind: api.LName, Node: 1, Index: 5}, target(4, 8)}},
		{"twice, and it would lead nowhere", entry(4, 5, 8, api.KFile, "f"), sampleLines(), []api.Loss{{Kind: api.LName, Node: 1, Index: 5}}},
		{"a node that is not there", entry(4, 5, 8, api.KFile, "x"), sampleLines(), []api.Loss{target(5, 8)}},
		{"a node behind the table", entry(4, 5, 9, api.KFile, "x"), sampleLines(), []api.Loss{target(5, 9)}},
		{"a node far behind the table", entry(4, 5, 1024, api.KDir, "x"), sampleLines(), []api.Loss{target(5, 1024)}},
		{"a file as a directory", entry(4, 5, 3, api.KDir, "x"), sampleLines(), []api.Loss{target(5, 3)}},
		{"a file as a link", entry(4, 5, 3, api.KLink, "x"), sampleLines(), []api.Loss{target(5, 3)}},
		{"a link as a file", entry(4, 5, 4, api.KFile, "x"), sampleLines(), []api.Loss{target(5, 4)}},
		{"a directory as a file", entry(4, 5, 2, api.KFile, "x"), sampleLines(), []api.Loss{target(5, 2)}},
		{"an orphan with a name", entry(4, 5, 6, api.KFile, "x"), append(sampleLines(), "/x 0"), nil},
		{"a link with two names", entry(5, 7, 4, api.KLink, "x"), []string{lineD, lineE, lineG, "/d/x -> d/g", lineF, lineL}, nil},
		{"a file with a name ahead of the others", entry(4, 7, 3, api.KFile, "a"), []string{"/a 136292 0-1 10-11 266-267", lineD, lineE, "/d/g = /a", "/f = /a", lineL}, nil},
		{"no entry in a block that is there", func(p *trial.Plate) { clear(p.Held[5]) }, []string{lineD, "/f 136292 0-1 10-11 266-267", lineL, "/lost/", "/lost/n5/"}, []api.Loss{{Kind: api.LLoose, Node: 5}}},
	})
}

// Slots are numbered through the directory, the holes in it too; a name may stand in another block.
func TestP1702Slots(t *testing.T) {
	p := trial.Sample(t)
	p.Change(2, func(n *api.Node) { n.Size, n.Direct[4], n.Single, n.Double = 512*300, 20, 21, 22 })
	p.Point(21, 5, 24) // index 15
	p.Point(22, 0, 25)
	p.Point(25, 1, 26) // index 139
	p.Held[20][64*3] = 1
	p.Entry(20, 4, api.Entry{Node: 6, Kind: api.KFile, Name: "g"})
	p.Entry(24, 7, api.Entry{Node: 7, Kind: api.KFile, Name: "h"})
	p.Entry(26, 2, api.Entry{Node: 6, Kind: api.KFile, Name: "i"})
	p.Held[26][64*7] = 1
	tells(t, "slots far behind", imaged(p), small, []string{lineD, lineE, lineG, "/d/i 0", lineF, lineL},
		api.Loss{Kind: api.LHole, Node: 2, Other: 296},
		api.Loss{Kind: api.LEntry, Node: 2, Index: 8*4 + 3}, api.Loss{Kind: api.LEntry, Node: 2, Index: 8*139 + 7},
		api.Loss{Kind: api.LName, Node: 2, Index: 8*4 + 4},
		api.Loss{Kind: api.LTarget, Node: 2, Index: 8*15 + 7, Other: 7})
}

// The losses stand in rising order of their fields, whichever was found first.
func TestP1702Order(t *testing.T) {
	p := trial.Sample(t)
	p.Change(3, func(n *api.Node) { n.Direct[2], n.Direct[1], n.Single = 50, 51, 50 })
	p.Change(4, func(n *api.Node) { n.Direct[9] = 1000 })
	p.Change(2, func(n *api.Node) { n.Size = 2048 })
	p.Slot(7)[0], p.Held[4][511], p.Held[5][511] = 1, 1, 1
	image := imaged(p)
	fill(image, 0, 1)
	tells(t, "much", image, small, with("136292 0-1 266-267"),
		api.Loss{Kind: api.LSuper}, api.Loss{Kind: api.LNode, Node: 7},
		api.Loss{Kind: api.LPointer, Node: 3, Index: 1, Block: 51}, api.Loss{Kind: api.LPointer, Node: 3, Index: 2, Block: 50}, api.Loss{Kind: api.LPointer, Node: 3, Index: 10, Block: 50, Other: 1}, api.Loss{Kind: api.LPointer, Node: 4, Index: 9, Block: 1000},
		api.Loss{Kind: api.LHole, Node: 2, Other: 3}, api.Loss{Kind: api.LEntry, Node: 1, Index: 7}, api.Loss{Kind: api.LEntry, Node: 2, Index: 7})
}

// What is answered is new memory: nothing of it is shared with the image, with another answer, or within one.
func TestP2Answers(t *testing.T) {
	p := trial.Sample(t)
	p.Change(6, func(n *api.Node) { n.Links, n.Size, n.Direct[0] = 1, 700, 20 })
	copy(p.Held[20], trial.Fill('z'))
	p.Slot(8)[0] = 1
	image := imaged(p)
	kept := bytes.Clone(image)
	items, losses, _ := salvage.Items(image, small)
	want, wantLosses, _ := itemsByWords(kept, small)
	again, lossesAgain, _ := salvage.Items(image, small)
	for i, x := range again {
		_ = append(x.Data, 1)
		_ = append(x.Runs, api.Run{From: 1})
		clear(again[i].Data[:cap(x.Data)])
		clear(again[i].Runs[:cap(x.Runs)])
		if i+1 < len(again) && !slices.EqualFunc(again[i+1:], want[i+1:], func(a, b api.Item) bool {
			return bytes.Equal(a.Data, b.Data) && slices.Equal(a.Runs, b.Runs)
		}) {
			t.Fatalf("P2: the lists of item %d are shared within the answer", i)
		}
	}
	clear(again[:cap(again)])
	clear(lossesAgain[:cap(lossesAgain)])
	if !site.Same(items, want) || !slices.Equal(losses, wantLosses) || !bytes.Equal(image, kept) {
		t.Errorf("P2: an answer is shared")
	}
	copy(image, make([]byte, len(image)))
	if !site.Same(items, want) {
		t.Errorf("P2: an answer is shared with the image")
	}
}
