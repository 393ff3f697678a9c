package patch_test

import (
	"bytes"
	"fmt"
	"slices"
	"strings"
	"testing"

	"vellum/api"
	"vellum/dump"
	"vellum/fs"
	"vellum/patch"
	"vellum/site"
	"vellum/trial"
)

var middle = api.Super{Sectors: 300, Log: 40, Nodes: 40}

// planted is a file system that has a tree, and nothing that is not durable.
func planted(t *testing.T, form api.Super, tree []api.Item) *site.Ground {
	t.Helper()
	g := site.Fresh(t, form)
	for _, x := range tree {
		trial.Is(t, "Put", site.Put(g.F, x), api.OK)
	}
	trial.Is(t, "Checkpoint", g.F.Checkpoint(), api.OK)
	return g
}

// saved is the tree of a file system.
func saved(g *site.Ground) []api.Item {
	g.T.Helper()
	b, e := dump.Save(g.F)
	trial.Is(g.T, "Save", e, api.OK)
	items, _ := dump.List(b)
	return items
}

// ontoOf does what P1807 says, operation by operation.
func ontoOf(f *fs.FS, b []byte) (int, api.Errno) {
	if _, _, e := f.Space(); e == api.ErrDead {
		return 0, e
	}
	if len(b) > 1<<24 {
		return 0, api.ErrLong
	}
	p, is := patchOf(b)
	if !is {
		return 0, api.ErrPatch
	}
	archive, e := dump.Save(f)
	if e != api.OK {
		return 0, e
	}
	old, _ := dump.List(archive)
	if _, e := applyOf(old, b); e != api.OK {
		return 0, e
	}
	ops := operationsOf(old, p.Changes)
	for done, op := range ops {
		if e := f.Do(op).Err; e != api.OK {
			return done, e
		}
	}
	return len(ops), api.OK
}

// asTwin does a patch at a copy of this ground, and by the words at another: the answers must be the same, and the disks must have been asked the same and hold the same, behind a power cut too. Before it a fuse is set, if it is not below 0. It tells what was answered.
func asTwin(g *site.Ground, what string, patched []byte, fuse int) (int, api.Errno) {
	g.T.Helper()
	a, b := g.Copied(), g.Copied()
	if fuse >= 0 {
		a.D.Fuse(fuse)
		b.D.Fuse(fuse)
	}
	n, e := patch.Onto(a.F, patched)
	if m, want := ontoOf(b.F, patched); n != m || e != want {
		g.T.Fatalf("P1807: %s: Onto: %d, %v, want %d, %v", what, n, e, m, want)
	}
	if x, y := a.D.Counts(), b.D.Counts(); x != y {
		g.T.Fatalf("P1807: %s: the disk was asked %+v, want %+v", what, x, y)
	}
	if !a.D.Burnt() {
		a.Whole()
		if x, y := saved(a), saved(b); !site.Same(x, y) {
			g.T.Fatalf("P1807: %s: %.1500s, want %.1500s", what, site.Short(x), site.Short(y))
		}
	}
	picks := []api.Pick{trial.Keep(), trial.Lose(), trial.Tear(99)}
	a.D.Crash(picks)
	b.D.Crash(picks)
	if !bytes.Equal(a.D.Image(), b.D.Image()) {
		g.T.Fatalf("P1807: %s: the disks are unlike", what)
	}
	site.OnDisk(g.T, a.D).Whole()
	return n, e
}

// numbers are the nodes of a file system by their paths.
func numbers(g *site.Ground, tree []api.Item) map[string]int {
	g.T.Helper()
	all := map[string]int{}
	for _, x := range tree {
		all[x.Path] = site.Does(g.T, g.F, site.Lstat(x.Path), api.OK).Stat.Node
	}
	return all
}

// becomes asks that a patch is done on a ground, and makes the tree of it; files that go on keep their nodes. It tells how many operations there were.
func becomes(g *site.Ground, what string, old, goal []api.Item, b []byte) int {
	g.T.Helper()
	was := numbers(g, old)
	n, e := patch.Onto(g.F, b)
	if got := saved(g); e != api.OK || !site.Same(got, goal) {
		g.T.Fatalf("P1811: %s: Onto: %d, %v; %.1500s, want %.1500s", what, n, e, site.Short(got), site.Short(goal))
	}
	g.Whole()
	is, before, behind := numbers(g, goal), states(old), states(goal)
	for path, x := range behind {
		if o := before[path]; o.Kind == x.Kind && (x.Kind == api.KFile || sameState(o, x)) && is[path] != was[path] {
			g.T.Fatalf("P1811: %s: %s was node %d and is %d", what, path, was[path], is[path])
		}
	}
	return n
}

// edits are pairs of trees between which files are edited.
func edits() [][2][]api.Item {
	old := map[int][]byte{}
	for _, i := range []int{0, 1, 2, 3, 5, 6, 7, 9, 12, 13, 140, 141, 142} {
		old[i] = blank(byte(i + 1))
	}
	was := content("/f", 512*143-100, old)
	var list [][2][]api.Item
	add := func(size int, touch map[int][]byte) {
		blocks := map[int][]byte{}
		for i, b := range old {
			blocks[i] = b
		}
		for i, b := range touch {
			blocks[i] = b
		}
		list = append(list, [2][]api.Item{items(was), items(content("/f", size, blocks))})
	}
	same := was.Size
	add(same, nil)
	for _, size := range []int{0, 1, 511, 512, 513, 1000, 1024, 512 * 4, 512*4 + 1, 512 * 6, 512*6 - 1, 512*6 + 1, 512*12 + 7, 512 * 138, 512*142 + 1, same - 1, same + 1, same + 100, same + 101, same + 5000, api.MaxFile} {
		add(size, nil)
		add(size, map[int][]byte{0: nil, 2: nil, 3: nil, 5: blank(77), 140: nil, 141: nil, 142: nil})
		add(size, map[int][]byte{0: blank(9), 1: blank(9), 4: blank(0), 8: blank(1), 12: nil, 142: blank(3), 143: blank(4)})
	}
	for i := range 143 {
		if old[i] != nil {
			add(same, map[int][]byte{i: nil})
			add(same, map[int][]byte{i: blank(200)})
		} else if i < 20 || i > 135 {
			add(same, map[int][]byte{i: blank(0)})
		}
	}
	add(same, map[int][]byte{0: nil, 1: nil, 2: nil, 3: nil, 5: nil, 6: nil})
	add(same, map[int][]byte{1: nil, 3: nil, 6: nil, 9: nil, 13: nil, 141: nil})
	add(3000, map[int][]byte{1: nil, 3: nil, 5: nil})
	return list
}

func TestP1807Edits(t *testing.T) {
	t.Parallel()
	for i, c := range edits() {
		g := planted(t, middle, c[0])
		what := fmt.Sprint("row ", i)
		b := bytesOf(diffOf(c[0], c[1]))
		asTwin(g, what, b, -1)
		becomes(g, what, c[0], c[1], b)
	}
}

// The pieces of what is written: 65536 bytes, the last one shorter; one that ends with a piece has none behind it.
func TestP1807Pieces(t *testing.T) {
	t.Parallel()
	for _, c := range []struct{ from, to, size, n int }{
		{0, 128, 65536, 2}, {0, 129, 65537, 3}, {0, 128, 65535, 2}, {5, 133, 133 * 512, 2}, {5, 134, 133*512 + 1, 3}, {1, 257, 257 * 512, 3}, {1, 257, 256*512 + 1, 3}, {0, 300, 300 * 512, 4}, {3, 258, 258*512 - 511, 3}, {2, 130, 131072, 2}, {0, 1, 9, 2}, {0, 1, 1, 1},
	} {
		old, goal := items(fileItem("/f", 1, 0)), items(fileItem("/f", c.size, 512*(c.to-c.from), run(c.from, c.to)))
		g := planted(t, api.Super{Sectors: 600, Log: 40, Nodes: 4}, old)
		b := bytesOf(diffOf(old, goal))
		asTwin(g, "pieces", b, -1)
		if n := becomes(g, "pieces", old, goal, b); n != c.n {
			t.Errorf("P1807: %+v: %d operations", c, n)
		}
	}
}

// Trees of all kinds, and how many operations lead from one to the other.
func TestP1807Rows(t *testing.T) {
	d, dx, dxy := dirItem("/d"), dirItem("/d/x"), fileItem("/d/x/y", 700, 512, run(1, 2))
	f, g := fileItem("/f", 5, 512, run(0, 1)), nameItem("/g", "/f")
	three := site.Three()
	for i, c := range []struct {
		old, goal []api.Item
		n         int
	}{
		{nil, nil, 0}, {three, three, 0}, {nil, three, 6}, {three, nil, 4},
		{items(fileItem("/a", 0, 0)), items(dirItem("/a")), 2}, {items(d, dx), nil, 2}, // examples 5 and 6
		{items(d, dx, dxy), nil, 3}, {items(d, dx, dxy), items(fileItem("/d", 0, 0)), 4}, {items(d, dx, dxy), items(linkItem("/d", "x")), 4}, {items(d, dx, dxy), items(d, linkItem("/d/x", "y")), 3},
		{items(linkItem("/d", "/")), items(d, dx, dxy), 6}, {items(linkItem("/d", "e"), dirItem("/e"), dirItem("/e/x")), items(d, dx, dirItem("/e"), dirItem("/e/x")), 3},
		{items(f, g), items(f), 1}, {items(f, g), nil, 2}, {items(f, g), items(fileItem("/g", 5, 512, run(0, 1))), 5}, {items(f), items(f, g), 1}, {items(f, g), items(f, linkItem("/g", "f")), 2}, {items(f, linkItem("/g", "f")), items(f, g), 2},
		{items(fileItem("/a", 0, 0), f, g), items(fileItem("/a", 0, 0), nameItem("/f", "/a"), nameItem("/g", "/a")), 4}, {items(fileItem("/a", 0, 0), f, nameItem("/g", "/a")), items(fileItem("/a", 0, 0), f, nameItem("/g", "/f")), 2},
		{items(f, g), items(fileItem("/f", 600, 1024, run(0, 2)), g), 2}, {items(linkItem("/l", "x")), items(linkItem("/l", "y")), 2}, {items(f, g), items(fileItem("/f", 0, 0), g), 1}, {items(d, f), items(fileItem("/d", 5, 512, run(0, 1)), nameItem("/f", "/d")), 6},
		{items(fileItem("/a", 1, 0), dirItem("/a!"), dirItem("/a!/b"), fileItem("/a.b", 1, 0)), items(dirItem("/a"), fileItem("/a/b", 0, 0), fileItem("/a!", 0, 0), fileItem("/a.b", 2, 0)), 7},
	} {
		ground := planted(t, middle, c.old)
		what := fmt.Sprint("row ", i)
		b := bytesOf(diffOf(c.old, c.goal))
		asTwin(ground, what, b, -1)
		if n := becomes(ground, what, c.old, c.goal, b); n != c.n {
			t.Errorf("P1807: row %d: %d operations, want %d", i, n, c.n)
		}
		back := bytesOf(diffOf(c.goal, c.old))
		ground.Synced()
		asTwin(ground, what+", back", back, -1)
		becomes(ground, what+", back", c.goal, c.old, back)
	}
}

// Room: with each number of blocks and of nodes that may be free, the patch comes as far as it can. What goes, goes first: so there is room for what comes.
func TestP1807Room(t *testing.T) {
	t.Parallel()
	old := items(fileItem("/a", 512*6, 512*6, run(0, 6)), dirItem("/d"), fileItem("/d/x", 1, 512, run(0, 1)), fileItem("/f", 512*8, 512*8, run(0, 8)))
	goal := items(fileItem("/d", 512*3, 512*3, run(0, 3)), fileItem("/f", 512*30, 512*12, run(4, 8), run(10, 18)), fileItem("/g", 512*5, 512*5, run(0, 5)), dirItem("/h"), linkItem("/h/l", "x"))
	answers := map[api.Errno]int{}
	for _, nodes := range []int{8, 12} {
		for more := range 14 {
			form := api.Super{Sectors: 3 + 18 + 2 + nodes/4 + 17 + more, Log: 18, Nodes: nodes}
			g := planted(t, form, old)
			for taken := range 4 { // nodes that are taken by files of which the tree is not to be rid
				tree := saved(g)
				_, e := asTwin(g, fmt.Sprintf("%d blocks more, %d nodes, %d taken", more, nodes, taken), bytesOf(diffOf(tree, append(slices.Clone(goal), tree[len(tree)-taken:]...))), -1)
				answers[e]++
				if g.F.Do(site.Create(fmt.Sprintf("/z%d", taken))).Err != api.OK {
					break
				}
				g.Synced()
			}
		}
	}
	if answers[api.OK] < 5 || answers[api.ErrNoSpace] < 20 || answers[api.ErrNoNodes] < 3 {
		t.Errorf("answers: %v", answers)
	}
}

// A full disk: what is edited in place, and what goes ahead of what comes, needs no room.
func TestP1807Full(t *testing.T) {
	f := fileItem("/f", 512*10, 512*10, run(0, 10))
	old := items(dirItem("/d"), linkItem("/d/l", "x"), f)
	g := planted(t, api.Super{Sectors: 3 + 18 + 3 + 13, Log: 18, Nodes: 4}, old)
	if blocks, nodes, _ := g.F.Space(); blocks != 0 || nodes != 0 {
		t.Fatalf("%d blocks and %d nodes are free", blocks, nodes)
	}
	other := fileItem("/f", 512*10, 512*10, run(0, 10))
	other.Data = bytes.Repeat([]byte{7}, len(other.Data))
	for i, goal := range [][]api.Item{
		items(dirItem("/d"), linkItem("/d/l", "x"), other),
		items(dirItem("/d"), linkItem("/d/m", "x"), other),
		items(fileItem("/d", 513, 1024, run(0, 2)), fileItem("/e", 0, 0), f),
		items(linkItem("/d", "y"), linkItem("/e", "z"), fileItem("/f", 512*30, 512*9, run(0, 1), run(3, 4), run(5, 8), run(9, 13))), // and an indirect block
		old,
	} {
		tree := saved(g)
		b := bytesOf(diffOf(tree, goal))
		g.Synced()
		asTwin(g, fmt.Sprint("row ", i), b, -1)
		becomes(g, fmt.Sprint("row ", i), tree, goal, b)
	}
}

// Links: a file has 64 names at most, and a directory 62 directories.
func TestP1807Links(t *testing.T) {
	t.Parallel()
	var names, dirs []api.Item
	for i := range 70 {
		names = append(names, nameItem(fmt.Sprintf("/n%02d", i), "/a"))
		dirs = append(dirs, dirItem(fmt.Sprintf("/n%02d", i)))
	}
	old := items(fileItem("/a", 0, 0))
	g := planted(t, api.Super{Sectors: 200, Log: 18, Nodes: 100}, old)
	for _, c := range []struct {
		more    []api.Item
		n, most int
	}{{names, 63, 63}, {names, 64, 63}, {names, 70, 63}, {dirs, 62, 62}, {dirs, 63, 62}, {dirs, 70, 62}} {
		n, e := asTwin(g, "links", bytesOf(diffOf(old, append(slices.Clone(old), c.more[:c.n]...))), -1)
		want := api.OK
		if c.n > c.most {
			want = api.ErrLinks
		}
		if n != min(c.n, c.most) || e != want {
			t.Errorf("P1807: %d of %d: %d, %v", c.most, c.n, n, e)
		}
	}
}

// The errors come in their order, and nothing is changed.
func TestP1807Errors(t *testing.T) {
	three := site.Three()
	g := planted(t, middle, three)
	asks := func(what string, b []byte, want api.Errno) {
		t.Helper()
		g.Unchanged(what, func() {
			if n, e := patch.Onto(g.F, b); n != 0 || e != want {
				t.Errorf("P1807: %s: %d, %v, want %v", what, n, e, want)
			}
		})
	}
	right := bytesOf(diffOf(three, nil))
	broken := append(right[:len(right)-1:len(right)-1], right[len(right)-1]+1)
	asks("no patch", nil, api.ErrPatch)
	asks("no patch", broken, api.ErrPatch)
	asks("too long", make([]byte, 1<<24+1), api.ErrLong)
	asks("another base", bytesOf(of(drop("/a"))), api.ErrBase)
	asks("another base", bytesOf(diffOf(nil, three)), api.ErrBase)
	asks("no outcome", fit(three, drop("/none")), api.ErrPatch)
	asks("not the one", fit(three, put(dirItem("/d"))), api.ErrPatch)
	asks("no tree", fit(three, drop("/d")), api.ErrPatch)
	asks("another goal", bytesOf(api.Patch{Base: sumOf(three), Goal: 7, Changes: []api.Change{put(linkItem("/l", "b"))}}), api.ErrPatch)

	// A tree that Save refuses: directories came to lie so deep by a move that a path is too long.
	deep := ""
	for range 18 {
		deep += "/" + strings.Repeat("n", 54)
		g.All(site.Mkdir(deep))
	}
	other := "/" + strings.Repeat("m", 54)
	g.All(site.Mkdir(other), site.Rename(deep[:55], other+deep[:55]))
	if _, e := dump.Save(g.F); e != api.ErrLong {
		t.Fatalf("Save: %v", e)
	}
	asks("Save refuses", right, api.ErrLong)
	asks("Save refuses", bytesOf(of(drop("/a"))), api.ErrLong)
	asks("no patch, and Save refuses", broken, api.ErrPatch)

	g.D.Take()
	for _, b := range [][]byte{nil, right, broken, make([]byte, 1<<24+1)} {
		if n, e := patch.Onto(g.F, b); n != 0 || e != api.ErrDead {
			t.Errorf("P1807: dead: %d, %v", n, e)
		}
	}
}

// A burnt disk: ErrDead, whatever the patch is.
func TestP5Onto(t *testing.T) {
	g := planted(t, middle, site.Three())
	g.D.Fuse(0)
	g.F.Sync()
	if !g.D.Burnt() {
		t.Fatal("it is not burnt")
	}
	for _, b := range [][]byte{nil, bytesOf(diffOf(site.Three(), site.Three())), bytesOf(of())} {
		if n, e := patch.Onto(g.F, b); n != 0 || e != api.ErrDead {
			t.Errorf("P5: burnt: %d, %v", n, e)
		}
	}
}

// A file that is held goes on where its name goes; one that is edited is edited in place.
func TestP1811Held(t *testing.T) {
	old := items(fileItem("/a", 600, 1024, run(0, 2)), fileItem("/f", 600, 1024, run(0, 2)))
	goal := items(fileItem("/f", 513, 512, run(1, 2)))
	g := planted(t, middle, old)
	a, _ := g.F.Hold("/a")
	f, _ := g.F.Hold("/f")
	b := bytesOf(diffOf(old, goal))
	becomes(g, "held", old, goal, b)
	if r := g.F.Do(api.Op{Kind: api.OpStat, Node: a}); r.Err != api.OK || r.Stat.Links != 0 || r.Stat.Size != 600 {
		t.Errorf("P1311: %+v", r)
	}
	if r := g.F.Do(api.Op{Kind: api.OpRead, Node: f, N: 600}); r.Err != api.OK || !bytes.Equal(r.Data, append(make([]byte, 512), 1)) {
		t.Errorf("P1811: %d bytes, %v", len(r.Data), r.Err)
	}
	if held := g.Held(); !slices.Equal(held, []int{a, f}) {
		t.Errorf("P1811: %v are held", held)
	}
}

// Nothing is synced: where the log has room nothing is flushed, and a cut may lose it all.
func TestP1807NoSync(t *testing.T) {
	three := site.Three()
	g := planted(t, api.Super{Sectors: 500, Log: 256, Nodes: 24}, three)
	was := g.D.Counts().Flushes
	if n, e := patch.Onto(g.F, bytesOf(diffOf(three, items(dirItem("/x"))))); n != 5 || e != api.OK {
		t.Errorf("P1807: %d, %v", n, e)
	}
	if now := g.D.Counts(); now.Flushes != was || now.Pending == 0 {
		t.Errorf("P1807: %+v, and there were %d flushes", now, was)
	}
	g.D.Crash(nil)
	if tree := saved(site.OnDisk(t, g.D)); !site.Same(tree, three) {
		t.Errorf("P1812: %s", site.Short(tree))
	}
}

// The patch is neither changed nor kept.
func TestP2Onto(t *testing.T) {
	old, goal := items(fileItem("/f", 600, 1024, run(0, 2))), items(fileItem("/f", 9000, 512*3, run(2, 5)), fileItem("/g", 700, 1024, run(0, 2)))
	g := planted(t, middle, old)
	b := bytesOf(diffOf(old, goal))
	was := bytes.Clone(b)
	becomes(g, "once", old, goal, b)
	if !bytes.Equal(b, was) {
		t.Error("P2: Onto has changed the patch")
	}
	for i := range b {
		b[i] = 0xEE
	}
	if tree := saved(g); !site.Same(tree, goal) {
		t.Errorf("P2: %s", site.Short(tree))
	}
}
