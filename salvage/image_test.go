package salvage_test

import (
	"bytes"
	"fmt"
	"math"
	"slices"
	"strings"
	"testing"

	"vellum/api"
	"vellum/salvage"
	"vellum/site"
	"vellum/trial"
)

// imageByWords is the image that comes of items, and those that were not left out.
func imageByWords(t *testing.T, items []api.Item, to api.Super) ([]byte, []api.Item) {
	t.Helper()
	d := site.Made(t, to)
	f := site.Mounted(t, d)
	var kept []api.Item
	for _, x := range items {
		if site.Put(f, x) == api.OK {
			kept = append(kept, x)
		} else if x.Kind == api.KFile && f.Do(site.Lstat(x.Path)).Err == api.OK { // no other item has that path, so it was created
			site.All(t, f, site.Unlink(x.Path))
		}
	}
	is(t, "Checkpoint", f.Checkpoint(), api.OK)
	return d.Image(), kept
}

// makes asks that Image answers as the words do, and that the new image is whole and holds what was kept; it tells that.
func makes(t *testing.T, what string, image []byte, s, to api.Super) []api.Item {
	t.Helper()
	was := bytes.Clone(image)
	items, _ := asWords(t, what, image, s)
	want, kept := imageByWords(t, items, to)
	got, n, e := salvage.Image(image, s, to)
	if e != api.OK || n != len(kept) || !bytes.Equal(got, want) {
		t.Fatalf("P1703: %s: Image to %v: %d of %d items, %v, want %d; the same bytes: %v", what, to, n, len(items), e, len(kept), bytes.Equal(got, want))
	}
	if !bytes.Equal(image, was) {
		t.Fatalf("P2: %s: Image changed the image", what)
	}
	_, f, taken := mounted(t, got)
	if !taken {
		t.Fatalf("P1707: %s: the new image does not mount", what)
	}
	if report, e := f.Check(3); e != api.OK || report.Phase != 0 {
		t.Fatalf("P1707: %s: Check: %+v, %v", what, report, e)
	}
	for _, s := range []api.Super{{}, to} {
		if again, losses := asWords(t, what, got, s); !site.Same(again, kept) || len(losses) > 0 {
			t.Fatalf("P1707: %s: Items of the new image: %s and %v, want %s", what, site.Short(again), losses, site.Short(kept))
		}
	}
	return kept
}

// keeps asks for an outline of what is not left out.
func keeps(t *testing.T, what string, image []byte, s, to api.Super, lines ...string) {
	t.Helper()
	if got := outline(makes(t, what, image, s, to)); !slices.Equal(got, lines) {
		t.Errorf("P1703: %s: to %v\n\t%s\nwant\n\t%s", what, to, strings.Join(got, "\n\t"), strings.Join(lines, "\n\t"))
	}
}

// A geometry that may not be is refused behind all that Items refuses.
func TestP1703Errors(t *testing.T) {
	image := imaged(trial.Sample(t))
	for _, to := range []api.Super{
		{}, {Sectors: 24, Log: 18, Nodes: 4}, {Sectors: 2049, Log: 18, Nodes: 4}, {Sectors: 64, Log: 17, Nodes: 4}, {Sectors: 64, Log: 18, Nodes: 5}, {Sectors: 64, Log: 257, Nodes: 4}, {Sectors: -1, Log: 18, Nodes: 4},
		{Sectors: math.MaxInt, Log: 18, Nodes: 4}, {Sectors: math.MinInt, Log: math.MinInt, Nodes: math.MaxInt}, {Sectors: 64, Log: 18, Nodes: 1028},
	} {
		if made, n, e := salvage.Image(image, small, to); e != api.ErrGeometry || len(made) > 0 || n != 0 {
			t.Errorf("P1703: Image to %v: %d bytes, %d, %v", to, len(made), n, e)
		}
		if made, n, e := salvage.Image(make([]byte, 512*64), api.Super{}, to); e != api.ErrCorrupt || len(made) > 0 || n != 0 {
			t.Errorf("P1703: Image of nothing to %v: %d bytes, %d, %v", to, len(made), n, e)
		}
	}
}

// What does not fit is left out, and what comes behind it takes the room.
func TestP1703Room(t *testing.T) {
	image := imaged(trial.Sample(t))
	all := sampleLines()
	form := func(nodes, data int) api.Super {
		return api.Super{Sectors: 3 + 18 + 2 + nodes/4 + data, Log: 18, Nodes: nodes}
	}
	// /d takes the root's block; /d/e one for /d; /d/g six; /l one
	keeps(t, "the same", image, small, small, all...)
	keeps(t, "a large one", image, small, large, all...)
	keeps(t, "a long log", image, small, api.Super{Sectors: 400, Log: 256, Nodes: 8}, all...)
	keeps(t, "just enough", image, small, form(8, 9), all...)
	keeps(t, "a block too few", image, small, form(8, 8), all[:4]...)
	keeps(t, "no room for the file: its name goes with it, the link has room", image, small, form(8, 7), "/d/", "/d/e/", "/l -> d/g")
	keeps(t, "two blocks and one", image, small, form(8, 3), "/d/", "/d/e/", "/l -> d/g")
	keeps(t, "two blocks", image, small, form(8, 2), "/d/", "/d/e/")
	keeps(t, "one block", image, small, form(8, 1), "/d/")
	keeps(t, "too few nodes", image, small, form(4, 30), "/d/", "/d/e/", "/d/g 136292 0-1 10-11 266-267", "/f = /d/g")
	p := trial.Sample(t)
	clear(p.Held[4][128:192])
	keeps(t, "what was loose", imaged(p), small, small, "/d/", "/d/e/", lineG, lineF, "/lost/", "/lost/n4 -> d/g")
	keeps(t, "nothing", make([]byte, 512*25), least, least)
	keeps(t, "an empty one", made(t, wide), api.Super{}, least)
}

// A file of many pieces goes in whole, or not at all: then its blocks are free for the next.
func TestP1703Pieces(t *testing.T) {
	drawn := trial.NewDice(1703).Bytes(150000)
	ops := []api.Op{site.Create("/a"), site.Create("/b"), site.Write("/b", 0, "short"), site.Truncate("/a", 3000000)}
	for _, piece := range []struct {
		at   int
		data []byte
	}{{700, drawn[:65536]}, {700 + 65536, drawn[65536:131072]}, {700 + 131072, drawn[131072:]}, {2900000, drawn[:40000]}} {
		ops = append(ops, api.Op{Kind: api.OpWrite, Path: "/a", Off: piece.at, Data: piece.data})
	}
	image := made(t, api.Super{Sectors: 600, Log: 40, Nodes: 4}, ops...)
	a, b := "/a 3000000 1-295 5664-5743", "/b 5 0-1"
	for _, c := range []struct {
		sectors int
		lines   []string
	}{{600, []string{a, b}}, {300, []string{b}}, {100, []string{b}}, {26, []string{b}}, {25, nil}} {
		keeps(t, "pieces", image, api.Super{}, api.Super{Sectors: c.sectors, Log: 18, Nodes: 4}, c.lines...)
	}
	// 373 blocks, the single block, the double block and its three leaves, and the root's block
	edge := 3 + 18 + 3 + 373 + 5 + 1
	keeps(t, "just enough", image, api.Super{}, api.Super{Sectors: edge, Log: 18, Nodes: 4}, a)
	keeps(t, "a block too few", image, api.Super{}, api.Super{Sectors: edge - 1, Log: 18, Nodes: 4}, b)
	keeps(t, "a block more", image, api.Super{}, api.Super{Sectors: edge + 1, Log: 18, Nodes: 4}, a, b)
}

// More names than a file may have links, and more directories than a directory may: on a broken disk they can be, on a whole one they can't.
func TestP1703Links(t *testing.T) {
	p := trial.Rooted(t, large)
	p.Lay(2, api.Node{Kind: api.KFile, Links: 3})
	spread(p, 1, p.Data, 20)
	for i := range 80 {
		p.Entry(p.Data+i/8, i%8, api.Entry{Node: 2, Kind: api.KFile, Name: fmt.Sprintf("f%02d", i)})
		p.Lay(3+i, api.Node{Kind: api.KDir, Parent: 1})
		p.Entry(p.Data+10+i/8, i%8, api.Entry{Node: 3 + i, Kind: api.KDir, Name: fmt.Sprintf("d%02d", i)})
	}
	kept := makes(t, "too many", imaged(p), large, large)
	if len(kept) != 62+64 || kept[61].Path != "/d61" || kept[62].Path != "/f00" || kept[125].Path != "/f63" {
		t.Errorf("P1703: %d items are kept", len(kept))
	}
}

// Drawn broken images, into disks of any room.
func TestP1707Drawn(t *testing.T) {
	t.Parallel()
	d := trial.NewDice(1707)
	left, all := 0, 0
	for range 250 {
		image, form := broken(t, d)
		to := trial.One(d, form, small, wide, least, api.Super{Sectors: 24 + 4 + d.Below(200), Log: 18, Nodes: 16}, api.Super{Sectors: 300, Log: 18 + d.Below(60), Nodes: 100})
		items, _, e := salvage.Items(image, form)
		is(t, "Items", e, api.OK)
		all += len(items)
		left += len(items) - len(makes(t, "drawn", image, form, to))
	}
	if left < 300 || all-left < 1000 {
		t.Errorf("the draw is thin: of %d items %d were left out", all, left)
	}
}
