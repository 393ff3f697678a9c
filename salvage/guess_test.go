package salvage_test

import (
	"bytes"
	"testing"

	"vellum/api"
	"vellum/codec"
	"vellum/salvage"
	"vellum/site"
	"vellum/trial"
)

// guesses asks that Guess answers this, and as the words do, of bytes that it leaves alone.
func guesses(t *testing.T, what string, image []byte, want api.Super, e api.Errno) {
	t.Helper()
	asGuessed(t, what, image)
	if got, err := salvage.Guess(image); got != want || err != e {
		t.Errorf("P1701: %s: Guess: %v, %v, want %v, %v", what, got, err, want, e)
	}
}

// asGuessed asks that Guess answers as the words do; it tells what.
func asGuessed(t *testing.T, what string, image []byte) (api.Super, api.Errno) {
	t.Helper()
	kept := bytes.Clone(image)
	got, e := salvage.Guess(image)
	want, err := guessByWords(kept)
	if got != want || e != err {
		t.Fatalf("P1701: %s: Guess: %v, %v, want %v, %v", what, got, e, want, err)
	}
	if !bytes.Equal(image, kept) {
		t.Fatalf("P2: %s: Guess changed the image", what)
	}
	return got, e
}

// lays lays a node into a slot of any sector.
func lays(t *testing.T, image []byte, sector, slot int, n api.Node) {
	t.Helper()
	record, e := codec.EncodeNode(n)
	is(t, "EncodeNode", e, api.OK)
	copy(image[512*sector+128*slot:], record)
}

var (
	root  = api.Node{Kind: api.KDir, Links: 2, Parent: 1}
	thing = api.Node{Kind: api.KFile, Links: 1}
)

// spot is a slot of a sector and what is laid there.
type spot struct {
	sector, slot int
	node         api.Node
}

// spotted is an image of zeros with these nodes.
func spotted(t *testing.T, sectors int, spots ...spot) []byte {
	t.Helper()
	image := make([]byte, 512*sectors)
	for _, s := range spots {
		lays(t, image, s.sector, s.slot, s.node)
	}
	return image
}

func TestP1701Lengths(t *testing.T) {
	for length, e := range map[int]api.Errno{
		0: api.ErrSectors, 1: api.ErrLength, 511: api.ErrLength, 512: api.ErrCorrupt, 513: api.ErrLength, 512 * 24: api.ErrCorrupt, 512*25 - 1: api.ErrLength, 512 * 25: api.ErrCorrupt,
		512 * 2048: api.ErrCorrupt, 512*2048 + 1: api.ErrLength, 512 * 2049: api.ErrSectors, 512*2049 - 1: api.ErrLength, 1 << 22: api.ErrSectors,
	} {
		guesses(t, "zeros", make([]byte, length), api.Super{}, e)
	}
	guesses(t, "nil", nil, api.Super{}, api.ErrSectors)
}

// A superblock is believed, whatever else lies there, if it is one of so many sectors.
func TestP1701Super(t *testing.T) {
	for _, s := range []api.Super{least, small, wide, large, {Sectors: 300, Log: 256, Nodes: 4}, {Sectors: 281, Log: 18, Nodes: 1024}} {
		super, e := codec.EncodeSuper(s)
		is(t, "EncodeSuper", e, api.OK)
		image := make([]byte, 512*s.Sectors)
		copy(image, super)
		guesses(t, "a superblock alone", image, s, api.OK)
		if s.Sectors < 2048 {
			guesses(t, "of fewer sectors", append(image, make([]byte, 512)...), api.Super{}, api.ErrCorrupt)
		}
		guesses(t, "of more sectors", image[:len(image)-512], api.Super{}, api.ErrCorrupt)
		image[300] = 1
		guesses(t, "broken", image, api.Super{}, api.ErrCorrupt)
	}
	image := spotted(t, 64, spot{23, 0, root}, spot{24, 0, thing})
	super, _ := codec.EncodeSuper(api.Super{Sectors: 64, Log: 30, Nodes: 12})
	copy(image, super)
	guesses(t, "beside a table elsewhere", image, api.Super{Sectors: 64, Log: 30, Nodes: 12}, api.OK)
	super, _ = codec.EncodeSuper(api.Super{Sectors: 65, Log: 30, Nodes: 12})
	copy(image, super)
	guesses(t, "of more sectors, beside a table elsewhere", image, api.Super{Sectors: 64, Log: 18, Nodes: 8}, api.OK)
}

// The table of a geometry with so many sectors of log begins in the sector log + 5.
func TestP1701Nodes(t *testing.T) {
	other := func(change func(n *api.Node)) api.Node {
		n := root
		change(&n)
		return n
	}
	for _, c := range []struct {
		what    string
		sectors int
		spots   []spot
		log     int
		nodes   int
	}{
		{"a root alone", 64, []spot{{35, 0, root}}, 30, 4},
		{"a root with the least log", 64, []spot{{23, 0, root}}, 18, 4},
		{"a root too far ahead", 64, []spot{{22, 0, root}}, 0, 0},
		{"a root with the greatest log", 300, []spot{{261, 0, root}}, 256, 4},
		{"a root too far behind", 300, []spot{{262, 0, root}}, 0, 0},
		{"a root on the least disk", 25, []spot{{23, 0, root}}, 18, 4},
		{"a root in the last sector but one", 64, []spot{{62, 0, root}}, 57, 4},
		{"a root in the last sector", 64, []spot{{63, 0, root}}, 0, 0},
		{"a root on too small a disk", 24, []spot{{23, 0, root}}, 0, 0},
		{"a root in another slot", 64, []spot{{35, 1, root}, {36, 3, root}}, 0, 0},
		{"a file as the root", 64, []spot{{35, 0, thing}, {36, 0, thing}}, 0, 0},
		{"a link as the root", 64, []spot{{35, 0, api.Node{Kind: api.KLink, Links: 1}}}, 0, 0},
		{"a directory of another parent", 64, []spot{{35, 0, other(func(n *api.Node) { n.Parent = 2 })}}, 0, 0},
		{"a root with any other fields", 64, []spot{{35, 0, other(func(n *api.Node) { n.Links, n.Size, n.Owned, n.Double = 0, 77, 2000, 2047 })}}, 30, 4},
		{"nodes in the same block", 64, []spot{{35, 0, root}, {35, 3, thing}}, 30, 4},
		{"nodes in the next block", 64, []spot{{35, 0, root}, {36, 3, thing}}, 30, 8},
		{"nodes behind a gap", 64, []spot{{35, 0, root}, {41, 0, thing}}, 30, 28},
		{"nodes ahead of it", 64, []spot{{34, 3, thing}, {35, 0, root}}, 30, 4},
		{"nodes up to the last block of the table", 64, []spot{{35, 0, root}, {62, 3, thing}}, 30, 112},
		{"nodes behind the last block of the table", 64, []spot{{35, 0, root}, {63, 0, thing}}, 30, 4},
		{"links and directories count too", 64, []spot{{35, 0, root}, {36, 0, api.Node{Kind: api.KLink}}, {37, 2, api.Node{Kind: api.KDir, Parent: 9}}}, 30, 12},
		{"two roots: the first counts both", 64, []spot{{30, 0, root}, {35, 0, root}}, 25, 24},
		{"two roots, and nodes of the second", 64, []spot{{30, 0, root}, {35, 0, root}, {36, 0, thing}}, 25, 28},
		{"the most nodes", 300, []spot{{23, 0, root}, {278, 3, thing}}, 18, 1024},
		{"more than the most nodes", 300, []spot{{23, 0, root}, {279, 0, thing}}, 18, 4},
		{"two roots, of which the second reaches more", 300, []spot{{23, 0, root}, {24, 0, root}, {279, 0, thing}, {279, 1, thing}}, 19, 1024},
		{"two roots that reach as many: the fewest nodes", 300, []spot{{23, 0, root}, {24, 0, root}, {279, 0, thing}}, 18, 8},
		{"two roots that reach as many, the second by fewer nodes", 400, []spot{{23, 0, root}, {223, 0, root}, {277, 0, thing}, {300, 0, thing}}, 218, 312},
		{"two roots that reach as many by as many nodes: the least log", 300, []spot{{23, 0, root}, {24, 0, root}, {278, 0, thing}, {279, 3, thing}}, 18, 1024},
		{"no node", 64, nil, 0, 0},
	} {
		image := spotted(t, c.sectors, c.spots...)
		if c.log == 0 {
			guesses(t, c.what, image, api.Super{}, api.ErrCorrupt)
			continue
		}
		guesses(t, c.what, image, api.Super{Sectors: c.sectors, Log: c.log, Nodes: c.nodes}, api.OK)
	}
	image := spotted(t, 64, spot{35, 0, root}, spot{36, 0, thing}, spot{37, 0, thing})
	image[512*37+9]++
	guesses(t, "a broken slot does not count", image, api.Super{Sectors: 64, Log: 30, Nodes: 8}, api.OK)
	image[512*35+9]++
	guesses(t, "a broken root is none", image, api.Super{}, api.ErrCorrupt)
}

// The nodes are counted as they lie in the table, whatever the log's records say.
func TestP1701Log(t *testing.T) {
	form := api.Super{Sectors: 120, Log: 60, Nodes: 40}
	d := site.Made(t, form)
	f := site.Mounted(t, d)
	for i := range 9 {
		site.All(t, f, site.Create("/"+string(rune('a'+i))))
	}
	is(t, "Sync", f.Sync(), api.OK)
	image := d.Image()
	fill(image, 0, 0)
	guesses(t, "nine files in the log", image, api.Super{Sectors: 120, Log: 60, Nodes: 4}, api.OK)
	is(t, "Checkpoint", f.Checkpoint(), api.OK)
	image = d.Image()
	fill(image, 0, 7)
	guesses(t, "nine files at home", image, api.Super{Sectors: 120, Log: 60, Nodes: 12}, api.OK)
}

// Drawn images with roots and nodes anywhere.
func TestP1701Drawn(t *testing.T) {
	t.Parallel()
	dice := trial.NewDice(1701)
	answers := map[api.Errno]int{}
	for range 400 {
		sectors := trial.One(dice, 25, 26, 30, 64, 64, 100, 281, 300, 300, 600)
		var spots []spot
		for range dice.Below(8) {
			at := trial.One(dice, dice.Below(sectors), 23+dice.Below(min(sectors-23, 8)), min(sectors-1, 277+dice.Below(4)))
			spots = append(spots, spot{at, dice.Below(4), trial.One(dice, thing, root)}, spot{at, 0, trial.One(dice, root, root, thing)})
		}
		image := spotted(t, sectors, spots...)
		if dice.Below(3) == 0 {
			image[dice.Below(len(image))]++
		}
		_, e := asGuessed(t, "drawn", image)
		answers[e]++
	}
	if answers[api.OK] < 100 || answers[api.ErrCorrupt] < 50 {
		t.Errorf("the draw is thin: %v", answers)
	}
}
