package patch_test

import (
	"bytes"
	"fmt"
	"slices"
	"strings"
	"testing"

	"vellum/api"
	"vellum/dump"
	"vellum/patch"
	"vellum/site"
)

// differs asks that Diff of two trees is what the chapter's words say, that it leads from the one to the other, and back; it tells what the patch says.
func differs(t *testing.T, what string, old, goal []api.Item) api.Patch {
	t.Helper()
	want := diffOf(old, goal)
	b, e := patch.Diff(old, goal)
	if e != api.OK || !bytes.Equal(b, bytesOf(want)) {
		p, _ := patch.List(b)
		t.Fatalf("P1803: %s: Diff: %d bytes, %v: %.1500s, want %.1500s", what, len(b), e, brief(p), brief(want))
	}
	applies(t, what, old, b, goal, api.OK)
	back, e := patch.Back(old, b)
	if e != api.OK || !bytes.Equal(back, bytesOf(diffOf(goal, old))) {
		t.Fatalf("P1805: %s: Back: %d bytes, %v", what, len(back), e)
	}
	applies(t, what, goal, back, old, api.OK)
	return want
}

// applies asks what Apply answers.
func applies(t *testing.T, what string, old []api.Item, b []byte, want []api.Item, e api.Errno) {
	t.Helper()
	items, got := patch.Apply(old, b)
	if got != e || !site.Same(items, want) {
		t.Fatalf("P1804: %s: Apply: %v, %.1500s, want %v, %.1500s", what, got, site.Short(items), e, site.Short(want))
	}
}

// changes asks for these changes between two trees.
func changes(t *testing.T, what string, old, goal []api.Item, want ...api.Change) {
	t.Helper()
	p := differs(t, what, old, goal)
	if !samePatch(api.Patch{Changes: p.Changes}, api.Patch{Changes: want}) {
		t.Errorf("P1803: %s: %.1500s, want %.1500s", what, brief(p), brief(of(want...)))
	}
}

// items is short for a list.
func items(list ...api.Item) []api.Item { return list }

func TestP1803Examples(t *testing.T) {
	three, ho := site.Three(), site.Three()
	ho[0].Data = append([]byte("ho"), make([]byte, 510)...)
	if sumOf(nil) != 3463975160 || sumOf(items(dirItem("/d"))) != 3470226446 || sumOf(three) != 1762441676 {
		t.Errorf("the sums are %d, %d, %d", sumOf(nil), sumOf(items(dirItem("/d"))), sumOf(three))
	}
	changes(t, "example 1", nil, nil)
	changes(t, "example 2", nil, items(dirItem("/d")), put(dirItem("/d")))
	changes(t, "example 2", items(dirItem("/d")), nil, drop("/d"))
	changes(t, "example 3", three, ho, api.Change{Kind: api.CEdit, Item: api.Item{Kind: api.KFile, Path: "/a", Size: 2, Runs: rows(run(0, 1)), Data: ho[0].Data}, Set: rows(run(0, 1))})
	full := fileItem("/f", 1536, 1536, run(0, 3))
	changes(t, "example 4", items(full), items(fileItem("/f", 1536, 1024, run(0, 1), run(2, 3))), edit(1536, rows(run(0, 1), run(2, 3))))
	changes(t, "example 4", items(full), items(fileItem("/f", 9000, 1536, run(0, 3))), edit(9000, rows(run(0, 3))))
	changes(t, "example 5", items(fileItem("/a", 0, 0)), items(dirItem("/a")), put(dirItem("/a")))
	changes(t, "example 6", items(dirItem("/d"), fileItem("/d/x", 0, 0)), nil, drop("/d"), drop("/d/x"))
}

// Every state of a path against every other: a change just if one of the five things of which a state is made is another, and of the right kind.
func TestP1803States(t *testing.T) {
	a, b := fileItem("/a", 5, 512, run(0, 1)), fileItem("/b", 5, 512, run(0, 1))
	other := fileItem("/m", 600, 512, run(0, 1))
	other.Data[9]++
	all := []api.Item{
		{}, dirItem("/m"), linkItem("/m", "x"), linkItem("/m", "y"), nameItem("/m", "/a"), nameItem("/m", "/b"),
		fileItem("/m", 0, 0), fileItem("/m", 5, 512, run(0, 1)), fileItem("/m", 600, 512, run(0, 1)), fileItem("/m", 600, 512, run(1, 2)), fileItem("/m", 600, 1024, run(0, 2)), fileItem("/m", 600, 0), other,
		fileItem("/m", 1600, 512, run(0, 1)), fileItem("/m", 1600, 512, run(1, 2)), // the same bytes elsewhere
	}
	tree := func(x api.Item) []api.Item {
		if x.Path == "" {
			return items(a, b, linkItem("/z", "m"))
		}
		return items(a, b, x, linkItem("/z", "m"))
	}
	for i, x := range all {
		for j, y := range all {
			p := differs(t, fmt.Sprintf("state %d and state %d", i, j), tree(x), tree(y))
			kind := api.CPut
			switch {
			case y.Path == "":
				kind = api.CDrop
			case x.Kind == api.KFile && y.Kind == api.KFile:
				kind = api.CEdit
			}
			if (len(p.Changes) == 0) != (i == j) || i != j && (len(p.Changes) != 1 || p.Changes[0].Kind != kind || p.Changes[0].Item.Path != "/m") {
				t.Errorf("P1803: state %d and state %d: %s", i, j, brief(p))
			}
		}
	}
}

// The rows of an edit are as few as can be, and have the indexes whose blocks are new or other ones.
func TestP1803Set(t *testing.T) {
	old := map[int][]byte{}
	for _, i := range []int{0, 1, 2, 3, 5, 6, 7, 9, 12} {
		old[i] = blank(byte(i + 1))
	}
	for i, c := range []struct {
		size  int
		touch map[int][]byte // nil: a hole
		runs  []api.Run
		set   []api.Run
	}{
		{7000, map[int][]byte{}, rows(run(0, 4), run(5, 8), run(9, 10), run(12, 13)), nil},
		{7000, map[int][]byte{1: blank(99)}, rows(run(0, 4), run(5, 8), run(9, 10), run(12, 13)), rows(run(1, 2))},
		{7000, map[int][]byte{1: blank(99), 2: blank(98)}, rows(run(0, 4), run(5, 8), run(9, 10), run(12, 13)), rows(run(1, 3))},
		{7000, map[int][]byte{1: blank(99), 3: blank(98)}, rows(run(0, 4), run(5, 8), run(9, 10), run(12, 13)), rows(run(1, 2), run(3, 4))},
		{7000, map[int][]byte{4: blank(0)}, rows(run(0, 8), run(9, 10), run(12, 13)), rows(run(4, 5))},
		{7000, map[int][]byte{3: blank(1), 4: blank(0), 5: blank(1)}, rows(run(0, 8), run(9, 10), run(12, 13)), rows(run(3, 6))},
		{7000, map[int][]byte{8: blank(7), 9: nil, 10: blank(3)}, rows(run(0, 4), run(5, 9), run(10, 11), run(12, 13)), rows(run(8, 9), run(10, 11))},
		{7000, map[int][]byte{0: nil, 12: nil, 2: nil}, rows(run(1, 2), run(3, 4), run(5, 8), run(9, 10)), nil},
		{7000, map[int][]byte{3: blank(1), 5: blank(1)}, rows(run(0, 4), run(5, 8), run(9, 10), run(12, 13)), rows(run(3, 4), run(5, 6))},
		{3072, map[int][]byte{}, rows(run(0, 4), run(5, 6)), nil},
		{3073, map[int][]byte{}, rows(run(0, 4), run(5, 7)), rows(run(6, 7))}, // its bytes behind the size are zeros now
		{7000, map[int][]byte{13: blank(5)}, rows(run(0, 4), run(5, 8), run(9, 10), run(12, 14)), rows(run(13, 14))},
		{90000, map[int][]byte{13: blank(5), 100: blank(0), 101: blank(0)}, rows(run(0, 4), run(5, 8), run(9, 10), run(12, 14), run(100, 102)), rows(run(13, 14), run(100, 102))},
	} {
		blocks := map[int][]byte{}
		for index, block := range old {
			blocks[index] = block
		}
		for index, block := range c.touch {
			blocks[index] = block
		}
		was, is := items(content("/f", 7001, old)), items(content("/f", c.size, blocks))
		p := differs(t, fmt.Sprint("row ", i), was, is)
		if len(p.Changes) != 1 || !slices.Equal(p.Changes[0].Set, c.set) || !slices.Equal(p.Changes[0].Item.Runs, c.runs) || p.Changes[0].Item.Size != c.size {
			t.Errorf("P1803: row %d: %s", i, brief(p))
		}
	}
	for _, at := range []int{0, 1, 255, 510, 511} { // all 512 bytes are compared
		block := blank(1)
		block[at]++
		p := differs(t, "one byte", items(content("/f", 512, old)), items(content("/f", 512, map[int][]byte{0: block})))
		if len(p.Changes) != 1 || len(p.Changes[0].Set) != 1 {
			t.Errorf("P1803: byte %d: %s", at, brief(p))
		}
	}
}

// The changes come in the order of paths.
func TestP1803Order(t *testing.T) {
	old := items(dirItem("/a"), dirItem("/a/z"), dirItem("/a\x01"), linkItem("/a.b", "x"), dirItem("/b"), fileItem("/c", 0, 0))
	goal := items(dirItem("/A"), dirItem("/a"), dirItem("/a/b"), dirItem("/a\x01"), linkItem("/a.b", "y"), fileItem("/c", 1, 0), dirItem("/\xff"))
	changes(t, "many", old, goal,
		put(dirItem("/A")), put(dirItem("/a/b")), drop("/a/z"), put(linkItem("/a.b", "y")), drop("/b"), api.Change{Kind: api.CEdit, Item: fileItem("/c", 1, 0)}, put(dirItem("/\xff")))
}

// wrongTrees are lists that are no tree, with the error of each.
func wrongTrees() map[string]struct {
	items []api.Item
	e     api.Errno
} {
	return map[string]struct {
		items []api.Item
		e     api.Errno
	}{
		"out of order":   {items(dirItem("/b"), dirItem("/a")), api.ErrArchive},
		"twice":          {items(dirItem("/a"), dirItem("/a")), api.ErrArchive},
		"hangs nowhere":  {items(dirItem("/a/b")), api.ErrArchive},
		"no kind":        {items(api.Item{Path: "/a"}), api.ErrArchive},
		"a name of none": {items(nameItem("/b", "/a")), api.ErrArchive},
		"a broken file":  {items(fileItem("/a", 1, 0, run(0, 1))), api.ErrArchive},
		"too many":       {site.Many(4097), api.ErrLong},
		"too long":       {site.Filled(1<<22 + 1), api.ErrLong},
		"a later name":   {items(nameItem("/a", "/b"), fileItem("/b", 0, 0)), api.ErrArchive},
		"an empty link":  {items(linkItem("/a", "")), api.ErrArchive},
		"no path":        {items(dirItem("/")), api.ErrArchive},
		"full directory": {items(api.Item{Kind: api.KDir, Path: "/a", Size: 1}), api.ErrArchive},
	}
}

// What is no tree is refused as dump's Pack refuses it, the old one first.
func TestP1803Errors(t *testing.T) {
	for what, x := range wrongTrees() {
		if _, e := dump.Pack(x.items); e != x.e {
			t.Fatalf("%s: Pack: %v", what, e)
		}
		for _, c := range []struct {
			old, goal []api.Item
			e         api.Errno
		}{{x.items, nil, x.e}, {nil, x.items, x.e}, {x.items, site.Three(), x.e}, {x.items, x.items, x.e}, {x.items, site.Many(4097), x.e}, {x.items, items(dirItem("/")), x.e}, {site.Many(4097), x.items, api.ErrLong}, {items(dirItem("/")), x.items, api.ErrArchive}} {
			if b, e := patch.Diff(c.old, c.goal); e != c.e || len(b) != 0 {
				t.Errorf("P1803: %s: %d bytes, %v, want %v", what, len(b), e, c.e)
			}
		}
	}
}

// named gives all items of a list other paths, so that it and what it was made of have none in common.
func named(list []api.Item) []api.Item {
	list = slices.Clone(list)
	for i := range list {
		list[i].Path = strings.ToUpper(list[i].Path)
	}
	return list
}

// comb is a file with a block at every other index, each of one byte.
func comb(path string, blocks int, x byte) api.Item {
	item := api.Item{Kind: api.KFile, Path: path, Size: 512 * 2 * blocks, Data: bytes.Repeat([]byte{x}, 512*blocks)}
	for i := range blocks {
		item.Runs = append(item.Runs, run(2*i, 2*i+1))
	}
	return item
}

// The greatest trees: the patch is never too long, and there are never too many changes.
func TestP1803Most(t *testing.T) {
	t.Parallel()
	full, under := site.Filled(1<<22), site.Many(4096)
	for i := range under {
		under[i].Path += "x"
	}
	turned := slices.Clone(full)
	for i := range turned {
		turned[i].Data = bytes.Repeat([]byte{2}, len(turned[i].Data))
		turned[i].Target = strings.ReplaceAll(turned[i].Target, "t", "u")
	}
	combs, others := items(comb("/a", 4000, 1), comb("/b", 4000, 1)), items(comb("/a", 4000, 2), comb("/b", 3999, 1))
	for i, c := range []struct {
		old, goal []api.Item
		changes   int
	}{
		{under, named(under), 8192}, {nil, site.Many(4096), 4096}, {site.Many(4096), nil, 4096}, {site.Many(4096), site.Many(4096), 0},
		{full, turned, len(full)}, {full, named(turned), 2 * len(full)}, {nil, full, len(full)}, {full, nil, len(full)}, {combs, others, 2}, {others, combs, 2},
	} {
		b, e := patch.Diff(c.old, c.goal)
		if e != api.OK || !bytes.Equal(b, bytesOf(diffOf(c.old, c.goal))) {
			t.Fatalf("P1803: row %d: %d bytes, %v", i, len(b), e)
		}
		p, e := patch.List(b)
		if e != api.OK || len(p.Changes) != c.changes {
			t.Errorf("P1803: row %d: %d changes, %v", i, len(p.Changes), e)
		}
		applies(t, fmt.Sprint("row ", i), c.old, b, c.goal, api.OK)
	}
}

// Drawn trees, near to each other or not: the patch between them is what the words say, and leads there and back.
func TestP1808Drawn(t *testing.T) {
	t.Parallel()
	d := newGardener(1808)
	kinds := map[int]int{}
	for range 3000 {
		old := d.tree()
		goal := d.other(old, d.Below(8))
		if d.Below(8) == 0 {
			goal = d.tree()
		}
		p := differs(t, "drawn", old, goal)
		for _, c := range p.Changes {
			kinds[c.Kind]++
			if len(c.Set) > 1 {
				kinds[99]++
			}
		}
		if len(p.Changes) == 0 {
			kinds[0]++
		}
	}
	for _, kind := range []int{0, 1, 2, 3, 99} {
		if kinds[kind] < 100 {
			t.Errorf("the draw is thin: %v", kinds)
		}
	}
}

// What is handed in is not changed and not kept.
func TestP2Diff(t *testing.T) {
	old, goal := items(fileItem("/f", 2000, 1024, run(0, 1), run(2, 3)), dirItem("/g")), items(fileItem("/f", 3000, 1536, run(0, 3)), fileItem("/g", 1, 512, run(0, 1)))
	b, _ := patch.Diff(old, goal)
	want := bytes.Clone(b)
	for i := range b {
		b[i] = 0xEE
	}
	_ = append(b, 1, 2, 3)
	if !site.Same(old, items(fileItem("/f", 2000, 1024, run(0, 1), run(2, 3)), dirItem("/g"))) || !site.Same(goal, items(fileItem("/f", 3000, 1536, run(0, 3)), fileItem("/g", 1, 512, run(0, 1)))) {
		t.Error("P2: Diff has changed its trees, or answered their memory")
	}
	if again, e := patch.Diff(old, goal); e != api.OK || !bytes.Equal(again, want) {
		t.Errorf("P3: Diff answers otherwise the second time: %v", e)
	}
}
