package salvage_test

import (
	"fmt"
	"slices"
	"strings"
	"testing"

	"vellum/api"
	"vellum/site"
	"vellum/trial"
)

// name is an entry of a directory; its kind is that of its node.
type name struct {
	in   int
	name string
	node int
}

// forest is a plate with directories, each with a block, and with these names in them, in their order. The nodes up to 9 are directories, those from 10 on files with a link.
func forest(t *testing.T, dirs []int, files []int, names ...name) *trial.Plate {
	t.Helper()
	p := trial.Zeros(t, wide)
	for _, k := range dirs {
		p.Lay(k, api.Node{Kind: api.KDir, Links: 2, Parent: 1, Size: 512, Direct: [10]int{p.Data + k}})
	}
	for _, k := range files {
		p.Lay(k, api.Node{Kind: api.KFile, Links: 1})
	}
	slots := map[int]int{}
	for _, x := range names {
		kind := api.KDir
		if x.node > 9 {
			kind = api.KFile
		}
		p.Entry(p.Data+x.in, slots[x.in], api.Entry{Node: x.node, Kind: kind, Name: x.name})
		slots[x.in]++
	}
	return p
}

func again(dir, slot, node int) api.Loss {
	return api.Loss{Kind: api.LAgain, Node: dir, Index: slot, Other: node}
}

func loose(node int) api.Loss { return api.Loss{Kind: api.LLoose, Node: node} }

// Directories that have two names, or hang in a ring, or below nothing.
func TestP1702Hanging(t *testing.T) {
	noRoot := api.Loss{Kind: api.LRoot}
	for _, c := range []struct {
		what   string
		dirs   []int
		files  []int
		names  []name
		lines  []string
		losses []api.Loss
	}{
		{"a directory twice in one", []int{1, 2}, nil, []name{{1, "b", 2}, {1, "a", 2}}, []string{"/a/"}, []api.Loss{again(1, 0, 2)}},
		{"a directory in two, the way by names decides", []int{1, 2, 3}, []int{10}, []name{{1, "z", 2}, {1, "a", 3}, {3, "m", 2}, {2, "f", 10}}, []string{"/a/", "/a/m/", "/a/m/f 0"}, []api.Loss{again(1, 0, 2)}},
		{"the root in itself", []int{1}, nil, []name{{1, "r", 1}}, nil, []api.Loss{again(1, 0, 1)}},
		{"the root below itself", []int{1, 2}, nil, []name{{1, "d", 2}, {2, "r", 1}}, []string{"/d/"}, []api.Loss{again(2, 0, 1)}},
		{"a directory in itself", []int{1, 2}, nil, []name{{1, "d", 2}, {2, "d", 2}}, []string{"/d/"}, []api.Loss{again(2, 0, 2)}},
		{"loose, and in itself", []int{1, 2}, []int{10}, []name{{2, "d", 2}, {2, "f", 10}}, []string{"/lost/", "/lost/n2/", "/lost/n2/f 0"}, []api.Loss{again(2, 0, 2), loose(2)}},
		{"a ring of two", []int{1, 2, 3}, nil, []name{{2, "x", 3}, {3, "y", 2}}, []string{"/lost/", "/lost/n2/", "/lost/n2/x/"}, []api.Loss{again(3, 0, 2), loose(2)}},
		{"a ring of three, and what hangs in it", []int{1, 2, 5, 7}, []int{10, 11}, []name{{7, "a", 5}, {5, "b", 2}, {2, "c", 7}, {5, "f", 10}, {7, "g", 11}, {2, "h", 10}}, []string{"/lost/", "/lost/n2/", "/lost/n2/c/", "/lost/n2/c/a/", "/lost/n2/c/a/f 0", "/lost/n2/c/g 0", "/lost/n2/h = /lost/n2/c/a/f"}, []api.Loss{again(5, 0, 2), loose(2)}},
		{"two rings", []int{1, 2, 3, 4, 5}, nil, []name{{2, "x", 4}, {4, "y", 2}, {3, "x", 5}, {5, "y", 3}}, []string{"/lost/", "/lost/n2/", "/lost/n2/x/", "/lost/n3/", "/lost/n3/x/"}, []api.Loss{again(4, 0, 2), again(5, 0, 3), loose(2), loose(3)}},
		{"a ring that one without a name leads into", []int{1, 2, 3, 7}, nil, []name{{2, "x", 3}, {3, "y", 2}, {7, "z", 3}}, []string{"/lost/", "/lost/n7/", "/lost/n7/z/", "/lost/n7/z/y/"}, []api.Loss{again(2, 0, 3), loose(7)}},
		{"two without a name, of which both lead to a third", []int{1, 2, 5, 9}, nil, []name{{5, "x", 2}, {9, "y", 2}}, []string{"/lost/", "/lost/n5/", "/lost/n5/x/", "/lost/n9/"}, []api.Loss{again(9, 0, 2), loose(5), loose(9)}},
		{"without a name, in rising order", []int{1, 2, 3, 9}, nil, []name{{9, "x", 2}, {3, "x", 2}}, []string{"/lost/", "/lost/n3/", "/lost/n3/x/", "/lost/n9/"}, []api.Loss{again(9, 0, 2), loose(3), loose(9)}},
		{"a ring and a way from the root into it", []int{1, 2, 3}, nil, []name{{2, "x", 3}, {3, "y", 2}, {1, "r", 3}}, []string{"/r/", "/r/y/"}, []api.Loss{again(2, 0, 3)}},
		{"no root, and others lead to where it would be", []int{2, 3}, []int{10}, []name{{2, "x", 3}, {3, "f", 10}}, []string{"/lost/", "/lost/n2/", "/lost/n2/x/", "/lost/n2/x/f 0"}, []api.Loss{noRoot, loose(2)}},
		{"no root, one directory below another of a lower number", []int{2, 3}, nil, []name{{3, "x", 2}}, []string{"/lost/", "/lost/n3/", "/lost/n3/x/"}, []api.Loss{noRoot, loose(3)}},
		{"no root and nothing else", nil, nil, nil, nil, []api.Loss{noRoot}},
		{"a file below what is loose is none", []int{1, 4}, []int{10, 12}, []name{{4, "f", 10}}, []string{"/lost/", "/lost/n12 0", "/lost/n4/", "/lost/n4/f 0"}, []api.Loss{loose(4), loose(12)}},
		{"a file that the root names, and what is loose names too", []int{1, 4}, []int{10}, []name{{1, "z", 10}, {4, "f", 10}}, []string{"/lost/", "/lost/n4/", "/lost/n4/f 0", "/z = /lost/n4/f"}, []api.Loss{loose(4)}},
		{"numbers are texts in the order of paths", []int{1, 2}, []int{10, 11, 30}, []name{{1, "m", 11}}, []string{"/lost/", "/lost/n10 0", "/lost/n2/", "/lost/n30 0", "/m 0"}, []api.Loss{loose(2), loose(10), loose(30)}},
	} {
		p := forest(t, c.dirs, c.files, c.names...)
		tells(t, c.what, imaged(p), wide, c.lines, c.losses...)
	}
}

// A file that nobody names is an orphan if it has no links; one that is named has been meant.
func TestP1702Orphans(t *testing.T) {
	p := forest(t, []int{1, 2}, []int{10, 11, 12}, name{1, "d", 2}, name{2, "f", 12})
	for _, k := range []int{11, 12} {
		p.Change(k, func(n *api.Node) { n.Links = 0 })
	}
	tells(t, "orphans", imaged(p), wide, []string{"/d/", "/d/f 0", "/lost/", "/lost/n10 0"}, loose(10))
	p.Change(10, func(n *api.Node) { n.Links = 64 })
	p.Change(11, func(n *api.Node) { n.Size, n.Direct[0] = 512, 40 })
	tells(t, "an orphan that holds a block", imaged(p), wide, []string{"/d/", "/d/f 0", "/lost/", "/lost/n10 0"}, loose(10))
	clear(p.Held[p.Data+2])
	tells(t, "a file that nobody names any more", imaged(p), wide, []string{"/d/", "/lost/", "/lost/n10 0"}, loose(10))
}

// The root is node 1 alone, and must be a directory; its parent is of no account.
func TestP1702Root(t *testing.T) {
	p := forest(t, []int{1, 2}, []int{10}, name{1, "d", 2}, name{2, "f", 10})
	p.Change(1, func(n *api.Node) { n.Parent, n.Links = 2, 0 })
	tells(t, "another parent", imaged(p), wide, []string{"/d/", "/d/f 0"})
	p.Lay(1, api.Node{Kind: api.KFile, Links: 1, Size: 3})
	noRoot := api.Loss{Kind: api.LRoot}
	tells(t, "a file", imaged(p), wide, []string{"/lost/", "/lost/n1 3", "/lost/n2/", "/lost/n2/f 0"}, noRoot, loose(1), loose(2))
	p.Lay(1, api.Node{Kind: api.KFile, Size: 3})
	tells(t, "an orphan", imaged(p), wide, []string{"/lost/", "/lost/n2/", "/lost/n2/f 0"}, noRoot, loose(2))
	p.Lay(1, api.Node{Kind: api.KLink, Links: 1, Size: 3})
	tells(t, "a link without a text", imaged(p), wide, []string{"/lost/", "/lost/n2/", "/lost/n2/f 0"}, noRoot, api.Loss{Kind: api.LText, Node: 1}, loose(2))
	p.Entry(p.Data+2, 3, api.Entry{Node: 1, Kind: api.KDir, Name: "up"})
	tells(t, "an entry of it as a directory", imaged(p), wide, []string{"/lost/", "/lost/n2/", "/lost/n2/f 0"}, noRoot, api.Loss{Kind: api.LTarget, Node: 2, Index: 3, Other: 1}, api.Loss{Kind: api.LText, Node: 1}, loose(2))
}

// The directory of what is loose has a name that no standing entry of the root has.
func TestP1702Lost(t *testing.T) {
	for _, c := range []struct {
		what  string
		names []name
		lines []string
	}{
		{"free", []name{{1, "lost!", 10}, {1, "los", 11}}, []string{"/los 0", "/lost/", "/lost/n20 0", "/lost! 0"}},
		{"a file", []name{{1, "lost", 10}}, []string{"/lost 0", "/lost.1/", "/lost.1/n20 0"}},
		{"a directory", []name{{1, "lost", 2}, {2, "n20", 10}}, []string{"/lost/", "/lost/n20 0", "/lost.1/", "/lost.1/n20 0"}},
		{"lost.1 alone", []name{{1, "lost.1", 10}}, []string{"/lost/", "/lost/n20 0", "/lost.1 0"}},
		{"lost and lost.1", []name{{1, "lost.1", 10}, {1, "lost", 11}}, []string{"/lost 0", "/lost.1 0", "/lost.2/", "/lost.2/n20 0"}},
		{"lost, lost.1 and lost.3", []name{{1, "lost.1", 10}, {1, "lost.3", 10}, {1, "lost", 11}}, []string{"/lost 0", "/lost.1 0", "/lost.2/", "/lost.2/n20 0", "/lost.3 = /lost.1"}},
		{"lost and lost.2", []name{{1, "lost.2", 10}, {1, "lost", 11}}, []string{"/lost 0", "/lost.1/", "/lost.1/n20 0", "/lost.2 0"}},
		{"in another directory", []name{{1, "d", 2}, {2, "lost", 10}}, []string{"/d/", "/d/lost 0", "/lost/", "/lost/n20 0"}},
	} {
		p := forest(t, []int{1, 2}, []int{20}, c.names...)
		var losses []api.Loss
		for _, k := range []int{10, 11} {
			p.Lay(k, api.Node{Kind: api.KFile}) // an orphan, where nobody names it
		}
		if !slices.ContainsFunc(c.names, func(x name) bool { return x.node == 2 }) {
			clear(p.Slot(2))
		}
		tells(t, c.what, imaged(p), wide, c.lines, append(losses, loose(20))...)
	}
	p := forest(t, []int{1}, []int{20}, name{1, "lost", 10})
	tells(t, "an entry that leads nowhere", imaged(p), wide, []string{"/lost/", "/lost/n20 0"}, api.Loss{Kind: api.LTarget, Node: 1, Other: 10}, loose(20))
	p = forest(t, []int{1}, []int{20})
	p.Lay(10, api.Node{Kind: api.KLink, Links: 1})
	p.Entry(p.Data+1, 0, api.Entry{Node: 10, Kind: api.KLink, Name: "lost"})
	tells(t, "a link of which nothing is made", imaged(p), wide, []string{"/lost.1/", "/lost.1/n20 0"}, api.Loss{Kind: api.LText, Node: 10}, loose(20))
	p = forest(t, []int{1}, []int{20}, name{1, "lost", 1})
	tells(t, "the root itself", imaged(p), wide, []string{"/lost.1/", "/lost.1/n20 0"}, again(1, 0, 1), loose(20))
	p = forest(t, []int{2}, []int{20}, name{2, "lost", 20})
	tells(t, "no root", imaged(p), wide, []string{"/lost/", "/lost/n2/", "/lost/n2/lost 0"}, api.Loss{Kind: api.LRoot}, loose(2))
	p = forest(t, []int{1, 2}, []int{20}, name{1, "lost", 2}, name{2, "f", 20})
	tells(t, "nothing is loose", imaged(p), wide, []string{"/lost/", "/lost/f 0"})
}

// chain are operations that make directories in one another, the first with a name of that length, the others with the longest; and the path of the last.
func chain(first, others int) ([]api.Op, string) {
	path := "/" + strings.Repeat("a", first)
	ops := []api.Op{site.Mkdir(path)}
	for range others {
		path += "/" + strings.Repeat("b", 54)
		ops = append(ops, site.Mkdir(path))
	}
	return ops, path
}

// A path of 1023 bytes is told; one of 1024 is too long, and what it would lead to is loose.
func TestP1702Deep(t *testing.T) {
	ops, base := chain(53, 17) // 989 bytes; nodes 2 to 19
	image := func(more ...api.Op) []byte {
		d := site.Made(t, wide)
		f := site.Mounted(t, d)
		site.All(t, f, append(ops, more...)...)
		is(t, "Checkpoint", f.Checkpoint(), api.OK)
		return d.Image()
	}
	longer := site.Rename("/"+strings.Repeat("a", 53), "/"+strings.Repeat("c", 54))
	file := "/" + strings.Repeat("f", 33)
	deep := func(node int) api.Loss { return api.Loss{Kind: api.LDeep, Node: 19, Other: node} }

	items, losses := asWords(t, "1023 bytes", image(site.Create(base+file)), wide)
	if len(losses) != 0 || len(items) != 19 || len(items[18].Path) != 1023 {
		t.Errorf("P1702: 1023 bytes: %d items, %v", len(items), losses)
	}
	items, losses = asWords(t, "1024 bytes", image(site.Create(base+file), longer), wide)
	if !slices.Equal(losses, []api.Loss{deep(20), loose(20)}) || len(items) != 20 || items[19].Path != "/lost/n20" {
		t.Errorf("P1702: 1024 bytes: %s, %v", site.Short(items), losses)
	}
	items, losses = asWords(t, "a file with another name", image(site.Create(base+file), site.Link(base+file, "/x"), longer), wide)
	if !slices.Equal(losses, []api.Loss{deep(20)}) || len(items) != 19 || items[18].Path != "/x" {
		t.Errorf("P1702: a file with another name: %s, %v", site.Short(items), losses)
	}
	items, losses = asWords(t, "a link", image(site.Symlink(base+file, "t"), longer), wide)
	if !slices.Equal(losses, []api.Loss{deep(20), loose(20)}) || len(items) != 20 || items[19].Target != "t" {
		t.Errorf("P1702: a link: %s, %v", site.Short(items), losses)
	}
	items, losses = asWords(t, "a directory", image(site.Mkdir(base+file[:32]), site.Create(base+file[:32]+"/g"), site.Rename(base+file[:32], base+file[:33]), longer, site.Mkdir("/z")), wide)
	if !slices.Equal(losses, []api.Loss{{Kind: api.LDeep, Node: 20, Other: 21}, loose(21)}) || len(items) != 22 || items[20].Path != "/lost/n21" {
		t.Errorf("P1702: a file below a directory: %s, %v", site.Short(items), losses)
	}
	items, losses = asWords(t, "a directory", image(site.Mkdir(base+file), longer), wide)
	if !slices.Equal(losses, []api.Loss{deep(20), loose(20)}) || len(items) != 20 || items[19].Kind != api.KDir {
		t.Errorf("P1702: a directory: %s, %v", site.Short(items), losses)
	}
}

// That a path is too long is told ahead of what else may be wrong with the entry; and below /lost paths are counted anew.
func TestP1702DeepFirst(t *testing.T) {
	p := forest(t, trial.Span(1, 10), nil)
	for k := 1; k < 10; k++ {
		p.Entry(p.Data+k, 0, api.Entry{Node: k%9 + 1, Kind: api.KDir, Name: strings.Repeat(string(rune('a'+k)), 54)})
	}
	p.Lay(20, api.Node{Kind: api.KLink, Links: 1})
	// 8 directories in a row, and the root again: no path is too long
	items, losses := asWords(t, "a short ring", imaged(p), wide)
	if len(items) != 8 || !slices.Equal(losses, []api.Loss{{Kind: api.LText, Node: 20}, again(9, 0, 1)}) {
		t.Errorf("P1702: a short ring: %s, %v", site.Short(items), losses)
	}
	q := trial.Zeros(t, wide)
	for k := 1; k <= 20; k++ {
		q.Lay(k, api.Node{Kind: api.KDir, Links: 2, Parent: 1, Size: 512, Direct: [10]int{q.Data + k}})
		if k < 20 {
			q.Entry(q.Data+k, 5, api.Entry{Node: k + 1, Kind: api.KDir, Name: strings.Repeat(string(rune('a'+k)), 54)})
		}
	}
	// node 19 has a path of 18 * 55 = 990 bytes; that of node 20 would have 1045
	q.Entry(q.Data+19, 0, api.Entry{Node: 1, Kind: api.KDir, Name: strings.Repeat("r", 33)})   // 1024: deep
	q.Entry(q.Data+19, 1, api.Entry{Node: 1, Kind: api.KDir, Name: strings.Repeat("s", 32)})   // 1023: once more
	q.Entry(q.Data+19, 2, api.Entry{Node: 22, Kind: api.KLink, Name: strings.Repeat("t", 33)}) // without a text
	q.Entry(q.Data+19, 3, api.Entry{Node: 23, Kind: api.KFile, Name: strings.Repeat("u", 33)}) // without a link
	q.Entry(q.Data+20, 0, api.Entry{Node: 2, Kind: api.KDir, Name: "b"})
	q.Entry(q.Data+20, 1, api.Entry{Node: 24, Kind: api.KFile, Name: "f"})
	q.Lay(22, api.Node{Kind: api.KLink, Links: 1})
	q.Lay(23, api.Node{Kind: api.KFile})
	q.Lay(24, api.Node{Kind: api.KFile, Links: 1})
	items, losses = asWords(t, "deep", imaged(q), wide)
	want := []api.Loss{
		{Kind: api.LText, Node: 22}, again(19, 1, 1), again(20, 0, 2),
		{Kind: api.LDeep, Node: 19, Index: 0, Other: 1}, {Kind: api.LDeep, Node: 19, Index: 2, Other: 22}, {Kind: api.LDeep, Node: 19, Index: 3, Other: 23}, {Kind: api.LDeep, Node: 19, Index: 5, Other: 20},
		loose(20), loose(23),
	}
	if lines := outline(items); !slices.Equal(losses, want) || !slices.Equal(lines[18:], []string{"/lost/", "/lost/n20/", "/lost/n20/f 0", "/lost/n23 0"}) {
		t.Errorf("P1702: deep: %q, %v", lines, losses)
	}
}

// spread gives a directory so many blocks from that one on, at the indexes from 0 on, its indirect blocks behind them; it tells the first block that is free.
func spread(p *trial.Plate, dir, first, count int) int {
	n := p.Told(dir)
	free := first + count
	take := func(block *int) {
		if *block == 0 {
			*block = free
			free++
		}
	}
	for i := range count {
		switch {
		case i < 10:
			n.Direct[i] = first + i
		case i < 138:
			take(&n.Single)
			p.Point(n.Single, i-10, first+i)
		default:
			take(&n.Double)
			if (i-138)%128 == 0 {
				p.Point(n.Double, (i-138)/128, free)
				free++
			}
			p.Point(free-1, (i-138)%128, first+i)
		}
	}
	n.Size = 512 * count
	p.Lay(dir, n)
	return free
}

// crowd is a plate whose root has so many names of one file, in falling order.
func crowd(t *testing.T, count int) *trial.Plate {
	t.Helper()
	p := trial.Rooted(t, large)
	p.Lay(2, api.Node{Kind: api.KFile, Links: 64, Size: 9})
	spread(p, 1, p.Data, (count+7)/8)
	for i := range count {
		p.Entry(p.Data+i/8, i%8, api.Entry{Node: 2, Kind: api.KFile, Name: fmt.Sprintf("m%05d", count-1-i)})
	}
	return p
}

// Of more than 4096 items the first ones stay.
func TestP1702Many(t *testing.T) {
	for _, c := range []struct{ count, lost int }{{4095, 0}, {4096, 0}, {4097, 1}, {4100, 4}, {9000, 4904}} {
		items, losses := asWords(t, "many", imaged(crowd(t, c.count)), large)
		var want []api.Loss
		if c.lost > 0 {
			want = []api.Loss{{Kind: api.LMany, Other: c.lost}}
		}
		if len(items) != c.count-c.lost || !slices.Equal(losses, want) {
			t.Errorf("P1702: %d names: %d items, losses %v", c.count, len(items), losses)
		}
		for i, x := range items {
			if x.Path != fmt.Sprintf("/m%05d", i) || (x.Kind == api.KFile) != (i == 0) || i > 0 && x.Target != "/m00000" {
				t.Fatalf("P1702: item %d of %d: %+v", i, c.count, x)
			}
		}
	}
	p := crowd(t, 4095)
	p.Lay(3, api.Node{Kind: api.KFile, Links: 1})
	items, losses := asWords(t, "many, and /lost", imaged(p), large)
	if len(items) != 4096 || items[0].Path != "/lost" || items[1].Path != "/lost/n3" || items[4095].Path != "/m04093" || !slices.Equal(losses, []api.Loss{loose(3), {Kind: api.LMany, Other: 1}}) {
		t.Errorf("P1702: many, and /lost: %d items, losses %v", len(items), losses)
	}
}
