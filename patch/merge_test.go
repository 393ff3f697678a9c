package patch_test

import (
	"slices"
	"testing"

	"vellum/api"
	"vellum/dump"
	"vellum/patch"
	"vellum/site"
)

func both(path string) api.Conflict    { return api.Conflict{Kind: api.XBoth, Path: path} }
func loose(path string) api.Conflict   { return api.Conflict{Kind: api.XLoose, Path: path} }
func badName(path string) api.Conflict { return api.Conflict{Kind: api.XName, Path: path} }

// merges asks that Merge answers as the words do, and what P1810 says of every answer; it tells the items and the conflicts.
func merges(t *testing.T, what string, base, left, right []api.Item) ([]api.Item, []api.Conflict) {
	t.Helper()
	items, conflicts, e := patch.Merge(base, left, right)
	wantItems, wantConflicts, want := mergeOf(base, left, right)
	if e != want || !site.Same(items, wantItems) || !slices.Equal(conflicts, wantConflicts) {
		t.Fatalf("P1806: %s: %v, %v, %.1500s, want %v, %v, %.1500s", what, e, conflicts, site.Short(items), want, wantConflicts, site.Short(wantItems))
	}
	if e != api.OK {
		return nil, nil
	}
	if rule := site.Broken(items); rule != 0 {
		t.Fatalf("P1810: %s: rule %d is broken: %.1500s", what, rule, site.Short(items))
	}
	ls, rs := states(left), states(right)
	for _, x := range items {
		if !sameState(x, ls[x.Path]) && !sameState(x, rs[x.Path]) {
			t.Fatalf("P1810: %s: %s is neither side's", what, x.Path)
		}
	}
	if !slices.ContainsFunc(conflicts, func(c api.Conflict) bool { return c.Kind == api.XBoth }) {
		turned, others, e := patch.Merge(base, right, left)
		if e != api.OK || !site.Same(turned, items) || !slices.Equal(others, conflicts) {
			t.Fatalf("P1810: %s: the sides turned: %v, %v, %.1500s", what, e, others, site.Short(turned))
		}
	}
	return items, conflicts
}

// meets asks for these items and conflicts of three trees.
func meets(t *testing.T, what string, base, left, right, want []api.Item, conflicts ...api.Conflict) {
	t.Helper()
	got, told := merges(t, what, base, left, right)
	if !site.Same(got, want) || !slices.Equal(told, conflicts) {
		t.Errorf("P1806: %s: %v, %.1500s, want %v, %.1500s", what, told, site.Short(got), conflicts, site.Short(want))
	}
}

func TestP1806Examples(t *testing.T) {
	d, x := dirItem("/d"), dirItem("/d/x")
	one, two := fileItem("/f", 1, 512, run(0, 1)), fileItem("/f", 2, 512, run(0, 1))
	meets(t, "example 8", items(d), nil, items(d, x), nil, loose("/d/x"))
	meets(t, "example 9", nil, items(one), items(two), items(one), both("/f"))
	meets(t, "example 10", nil, items(dirItem("/p")), items(dirItem("/q")), items(dirItem("/p"), dirItem("/q")))
	meets(t, "example 8, turned", items(d), items(d, x), nil, nil, loose("/d/x"))
	meets(t, "example 9, turned", nil, items(two), items(one), items(two), both("/f"))
}

// Every state of a path in the three trees.
func TestP1806Picks(t *testing.T) {
	a := fileItem("/a", 5, 512, run(0, 1))
	other := fileItem("/m", 600, 512, run(0, 1))
	other.Data[511]++
	all := []api.Item{
		{}, dirItem("/m"), linkItem("/m", "x"), linkItem("/m", "y"), nameItem("/m", "/a"),
		fileItem("/m", 600, 512, run(0, 1)), other, fileItem("/m", 601, 512, run(0, 1)), fileItem("/m", 1600, 512, run(0, 1)), fileItem("/m", 1600, 512, run(1, 2)),
	}
	tree := func(x api.Item) []api.Item {
		if x.Path == "" {
			return items(a, dirItem("/z"))
		}
		return items(a, x, dirItem("/z"))
	}
	for b := range all {
		for l := range all {
			for r := range all {
				want, conflict := l, l != r && l != b && r != b
				if l == b {
					want = r
				}
				var conflicts []api.Conflict
				if conflict {
					conflicts = []api.Conflict{both("/m")}
				}
				meets(t, "states", tree(all[b]), tree(all[l]), tree(all[r]), tree(all[want]), conflicts...)
			}
		}
	}
}

// What hangs on what is not in the answer is left out, and all that hangs on that.
func TestP1806LeftOut(t *testing.T) {
	d, dx, dxy := dirItem("/d"), dirItem("/d/x"), linkItem("/d/x/y", "t")
	f, g := fileItem("/f", 1, 512, run(0, 1)), nameItem("/g", "/f")
	meets(t, "a directory that went", items(d), nil, items(d, dx, dxy), nil, loose("/d/x"), loose("/d/x/y"))
	meets(t, "a directory that became a file", items(d), items(fileItem("/d", 0, 0)), items(d, dx), items(fileItem("/d", 0, 0)), loose("/d/x"))
	meets(t, "a directory that became a link", items(d), items(linkItem("/d", "/")), items(d, dx, dxy), items(linkItem("/d", "/")), loose("/d/x"), loose("/d/x/y"))
	meets(t, "a directory that both kept", items(d, dx), items(d), items(d, dx, dxy), items(d), loose("/d/x/y"))
	meets(t, "changed below one that went", items(d, dx, dxy), nil, items(d, dx, linkItem("/d/x/y", "u")), nil, both("/d/x/y"))
	meets(t, "changed below one that went, turned", items(d, dx, dxy), items(d, dx, linkItem("/d/x/y", "u")), nil, nil, both("/d/x/y"), loose("/d/x/y"))
	meets(t, "a name whose file went", items(f), nil, items(f, g), nil, badName("/g"))
	meets(t, "a name whose file became a directory", items(f), items(dirItem("/f")), items(f, g), items(dirItem("/f")), badName("/g"))
	meets(t, "a name whose file became a name", items(dirItem("/a"), f), items(fileItem("/a", 0, 0), nameItem("/f", "/a")), items(dirItem("/a"), f, g), items(fileItem("/a", 0, 0), nameItem("/f", "/a")), badName("/g"))
	meets(t, "a name whose file was edited", items(f), items(fileItem("/f", 2, 512, run(0, 1))), items(f, g), items(fileItem("/f", 2, 512, run(0, 1)), g))
	meets(t, "a name in a directory that went", items(dirItem("/a"), fileItem("/e", 0, 0)), items(fileItem("/e", 0, 0)), items(dirItem("/a"), dirItem("/a/x"), fileItem("/e", 0, 0), nameItem("/z", "/e")), items(fileItem("/e", 0, 0), nameItem("/z", "/e")), loose("/a/x"))
	meets(t, "both, and a name of none", items(f, nameItem("/g", "/f")), items(f, linkItem("/g", "x")), nil, items(linkItem("/g", "x")), both("/g"))
	meets(t, "both, and a name of none, turned", items(f, linkItem("/g", "x")), items(f, nameItem("/g", "/f")), nil, nil, both("/g"), badName("/g"))
	meets(t, "a file left out, and its name", items(d), nil, items(d, fileItem("/d/f", 0, 0), nameItem("/z", "/d/f")), nil, loose("/d/f"), badName("/z"))
	meets(t, "loose and no file: it is loose", items(fileItem("/a", 0, 0), d), nil, items(fileItem("/a", 0, 0), d, nameItem("/d/n", "/a")), nil, loose("/d/n"))
	meets(t, "two new directories of one path", nil, items(d, dx), items(d, dirItem("/d/z")), items(d, dx, dirItem("/d/z")))
	meets(t, "a directory and a file of one path", nil, items(d, dx), items(fileItem("/d", 1, 0)), items(d, dx), both("/d"))
	meets(t, "a file and a directory of one path", nil, items(fileItem("/d", 1, 0)), items(d, dx), items(fileItem("/d", 1, 0)), both("/d"), loose("/d/x"))
}

// The errors come in their order; with one there is neither item nor conflict.
func TestP1806Errors(t *testing.T) {
	asks := func(what string, base, left, right []api.Item, want api.Errno) {
		t.Helper()
		if got, conflicts, e := patch.Merge(base, left, right); e != want || len(got) != 0 || len(conflicts) != 0 {
			t.Errorf("P1806: %s: %d items, %v, %v, want %v", what, len(got), conflicts, e, want)
		}
	}
	many, wrong := site.Many(4097), items(dirItem("/"))
	for what, x := range wrongTrees() {
		for _, y := range [][]api.Item{nil, many, wrong} {
			asks(what, x.items, y, y, x.e)
		}
		for _, y := range [][]api.Item{nil, many, wrong} {
			asks(what, nil, x.items, y, x.e)
		}
		asks(what, site.Three(), items(dirItem("/p")), x.items, x.e)
		asks(what, many, x.items, x.items, api.ErrLong)
		asks(what, wrong, x.items, x.items, api.ErrArchive)
		asks(what, nil, wrong, x.items, api.ErrArchive)
		asks(what, nil, many, x.items, api.ErrLong)
	}
}

// What the two sides put in may be too much for one tree; by an item, or by a byte.
func TestP1806Long(t *testing.T) {
	t.Parallel()
	asks := func(what string, base, left, right []api.Item, want api.Errno) {
		t.Helper()
		got, conflicts, e := patch.Merge(base, left, right)
		if e != want || e != api.OK && (len(got) != 0 || len(conflicts) != 0) {
			t.Errorf("P1806: %s: %d items, %v, %v, want %v", what, len(got), conflicts, e, want)
		}
		merges(t, what, base, left, right)
	}
	all := site.Many(4097)
	asks("4096 items", nil, all[:4095], all[4095:4096], api.OK)
	asks("4097 items", nil, all[:4096], all[4096:], api.ErrLong)
	asks("8192 items", nil, all[:4096], named(site.Filled(1<<20)), api.ErrLong)
	asks("4096 items, and a conflict", items(dirItem("/x")), append(slices.Clone(all[:4095]), linkItem("/x", "a")), items(linkItem("/x", "b")), api.OK)
	asks("4097 items, and a conflict", items(dirItem("/x")), append(slices.Clone(all[:4095]), linkItem("/x", "a")), append(slices.Clone(all[4095:4096]), linkItem("/x", "b")), api.ErrLong)
	full := site.Filled(1<<22 - 5)
	asks("the longest", nil, full, items(dirItem("/x")), api.OK)
	asks("too long by a byte", nil, full, items(dirItem("/xx")), api.ErrLong)
	asks("one left out", items(dirItem("/x")), full, items(dirItem("/x"), dirItem("/x/y")), api.OK)
	half := site.Filled(1 << 21)
	asks("two that are long", nil, half, named(half), api.OK)
	asks("two that are too long", nil, full, named(full), api.ErrLong)
	asks("what both have", nil, full, full, api.OK)
}

// Drawn trees: the answers are those of the words, and the laws of P1810 hold.
func TestP1810Drawn(t *testing.T) {
	t.Parallel()
	d := newGardener(1810)
	kinds := map[int]int{}
	for range 3000 {
		base := d.tree()
		left, right := d.other(base, d.Below(7)), d.other(base, d.Below(7))
		if d.Below(8) == 0 {
			right = d.tree()
		}
		_, conflicts := merges(t, "drawn", base, left, right)
		for _, c := range conflicts {
			kinds[c.Kind]++
		}
		if len(conflicts) == 0 {
			kinds[0]++
		}
		for _, x := range [][]api.Item{base, left, right}[d.Below(3):] {
			meets(t, "left is base", base, base, x, x)
			meets(t, "right is base", base, x, base, x)
			meets(t, "both are one", base, x, x, x)
		}
	}
	for kind := range 4 {
		if kinds[kind] < 100 {
			t.Errorf("the draw is thin: %v", kinds)
		}
	}
}

// What is handed in is not changed and not kept; what is answered is new memory, each list by itself.
func TestP2Merge(t *testing.T) {
	trees := func() [][]api.Item {
		f := fileItem("/f", 3000, 1536, run(0, 3))
		g := fileItem("/g", 2000, 1024, run(0, 1), run(2, 3))
		return [][]api.Item{items(f), items(f, g), items(fileItem("/a", 600, 1024, run(0, 2)), f)}
	}
	copied := func(list [][]api.Item) [][]api.Item { // f is one memory in all three of them
		var all [][]api.Item
		for _, items := range list {
			b, _ := dump.Pack(items)
			again, _ := dump.List(b)
			all = append(all, again)
		}
		return all
	}
	in, was := copied(trees()), copied(trees())
	got, _, _ := patch.Merge(in[0], in[1], in[2])
	want := items(was[2][0], was[0][0], was[1][1])
	for i := range in {
		if !site.Same(in[i], was[i]) {
			t.Error("P2: Merge has changed what it was handed")
		}
		ruin(in[i])
	}
	if !site.Same(got, want) {
		t.Error("P2: what Merge answers hangs on its arguments' memory")
	}
	apartLists(t, got, copied([][]api.Item{want})[0])
	in = copied(trees())
	got, _, _ = patch.Merge(in[0], in[1], in[2])
	ruin(got)
	for i := range in {
		if !site.Same(in[i], was[i]) {
			t.Error("P2: what Merge answers is its arguments' memory")
		}
	}
	f := fileItem("/f", 3000, 1536, run(0, 3))
	one := items(f)
	got, _, _ = patch.Merge(one, one, one)
	ruin(got)
	if !site.Same(one, items(fileItem("/f", 3000, 1536, run(0, 3)))) {
		t.Error("P2: what Merge answers of one tree is its memory")
	}
}
