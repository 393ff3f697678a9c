package find_test

import (
	"fmt"
	"slices"
	"strings"
	"testing"

	"vellum/api"
	"vellum/find"
	"vellum/site"
	"vellum/trial"
)

// from asks that a Run from a path tells these texts, with blanks between.
func from(g *site.Ground, path, query, want string) {
	g.T.Helper()
	if got, e := runs(g, path, query); strings.Join(got, " ") != want || e != api.OK {
		g.T.Fatalf("Run(%.100q, %.300q): %.1500q, %v, want %.1500q", path, query, strings.Join(got, " "), e, want)
	}
}

// The chapter's examples.
func TestP1908Examples(t *testing.T) {
	g := sample(t)
	tells(g, "all", "/ /a /d /d/b /d/c /l")
	from(g, "/d/", "all", "/d /d/b /d/c")
	from(g, "/l", "all", "/l")
	from(g, "/l", "kind file and node = 2 and depth = 0", "/l")
	tells(g, "kind file and not sparse", "/a /d/b")
	tells(g, "sparse", "/d/c")
	tells(g, "links > 1 and size = 5", "/a /d/b")
	tells(g, "same /l", "/a /d/b")
	tells(g, "has name b", "/d")
	tells(g, "has has all", "/")
	tells(g, "holds ll or target d/?", "/a /d/b /l")
	tells(g, "under /d and depth = 2", "/d/b /d/c")
	from(g, "/d", "depth = 2", "")
	tally, e := find.Tally(g.F, "/", "kind file")
	if tally != (api.Tally{Found: 3, Nodes: 2, Files: 2, Size: 2005, Owned: 1}) || e != api.OK {
		t.Errorf("P1910: %+v, %v", tally, e)
	}
}

// Where a search begins, and how that is told.
func TestP1906Start(t *testing.T) {
	g := planted(t, api.Super{Sectors: 100, Log: 18, Nodes: 16},
		site.Mkdir("/d"), site.Mkdir("/d/e"), site.Create("/d/e/f"), site.Symlink("/d/e/up", ".."), site.Symlink("/l", "d"), site.Symlink("/m", "/l/e/f"), site.Symlink("/root", "/"), site.Symlink("/none", "x"), site.Symlink("/self", "self"))
	below := "/d/e /d/e/f /d/e/up"
	for _, c := range []struct{ path, want string }{
		{"/d/e", below}, {"/d/e/", below}, {"//d//e//", below}, {"/./d/./e/.", below}, {"/d/e/f", "/d/e/f"}, {"/d/e/f/", "/d/e/f"}, {"/d/e/f/.", "/d/e/f"},
		{"/d", "/d " + below}, {"/l", "/l /l/e /l/e/f /l/e/up"}, {"/l/", "/l /l/e /l/e/f /l/e/up"}, {"/l/e", "/l/e /l/e/f /l/e/up"}, {"/m", "/m"},
		{"/d/e/..", "/d/e/.. /d/e/../e /d/e/../e/f /d/e/../e/up"}, {"/d/e/../", "/d/e/.. /d/e/../e /d/e/../e/f /d/e/../e/up"}, {"/d/../d/e", "/d/../d/e /d/../d/e/f /d/../d/e/up"}, {"/d/e/up", "/d/e/up /d/e/up/e /d/e/up/e/f /d/e/up/e/up"}, {"/l/..", "/l/.. /l/../d /l/../d/e /l/../d/e/f /l/../d/e/up /l/../l /l/../m /l/../none /l/../root /l/../self"},
		{"/..", "/.. /../d /../d/e /../d/e/f /../d/e/up /../l /../m /../none /../root /../self"}, {"/root", "/root /root/d /root/d/e /root/d/e/f /root/d/e/up /root/l /root/m /root/none /root/root /root/self"}, {"//", "/ /d " + below + " /l /m /none /root /self"}, {"/.", "/ /d " + below + " /l /m /none /root /self"},
	} {
		from(g, c.path, "all", c.want)
		// A link at the start is followed, those below are not.
		from(g, c.path, "depth = 0 and not kind link and under "+c.path, strings.Fields(c.want)[0])
	}
	from(g, "/d/e/..", `name ".."`, "/d/e/..")
	from(g, "/d/e/..", "same /d", "/d/e/..")
	from(g, "/..", "name \"\"", "")
	from(g, "/", "name \"\"", "/")
	from(g, "/l", "name l and kind dir", "/l")
	from(g, "/l", "target **", "/l/e/up")
	from(g, "/m", "target **", "")
	for path, want := range map[string]api.Errno{"/none": api.ErrNotFound, "/self": api.ErrLoop, "/x": api.ErrNotFound, "/x/y": api.ErrNotFound, "/d/e/f/x": api.ErrNotDir, "/m/..": api.ErrNotDir, "/self/x": api.ErrLoop} {
		if _, e := runs(g, path, "all"); e != want {
			t.Errorf("P1908: Run(%q): %v, want %v", path, e, want)
		}
	}
}

// Names of any bytes come in the order of List, and what lies in a directory behind it.
func TestP1906Order(t *testing.T) {
	g := planted(t, api.Super{Sectors: 100, Log: 18, Nodes: 20},
		site.Create("/b"), site.Mkdir("/a"), site.Create("/a.b"), site.Create("/a!"), site.Create("/A"), site.Create("/\xff"), site.Create("/\x01"), site.Create("/a/z"), site.Mkdir("/a/y"), site.Create("/a/y/x"), site.Create("/..."), site.Create("/a b"), site.Create("/*"), site.Create("/[\\"), site.Create("/\""))
	got, e := runs(g, "/", "all")
	want := []string{"/", "/\x01", "/\"", "/*", "/...", "/A", "/[\\", "/a", "/a/y", "/a/y/x", "/a/z", "/a b", "/a!", "/a.b", "/b", "/\xff"}
	if !slices.Equal(got, want) || e != api.OK {
		t.Errorf("P1906: %q, %v, want %q", got, e, want)
	}
	for _, c := range []struct{ query, want string }{
		{`name "\\*"`, "/*"}, {`name "\\[\\\\"`, "/[\\"}, {`name "\x01"`, "/\x01"}, {`name "[\x80-\xff]"`, "/\xff"}, {`name "..."`, "/..."}, {`name "a b"`, "/a b"}, {`name "\""`, "/\""}, {`same "/a b"`, "/a b"}, {`under "/\xff"`, "/\xff"}, {"name [!a-z]", "/\x01 /\" /* /A /\xff"},
	} {
		tells(g, c.query, c.want)
	}
}

// deep is a tree in which a directory lies so deep that the path of one of its names has 1023 bytes, of others more.
func deep(t *testing.T) (*site.Ground, string) {
	t.Helper()
	z := strings.Repeat("z", 54)
	g := planted(t, api.Super{Sectors: 200, Log: 40, Nodes: 60}, site.Mkdir("/q"), site.Create("/q/"+z[:32]), site.Create("/q/"+z[:33]), site.Mkdir("/q/"+z[:34]), site.Create("/q/"+z[:34]+"/in"), site.Create("/q/y"), site.Mkdir("/q/"+z[:30]), site.Mkdir("/q/"+z[:31]), site.Create("/q/"+z[:31]+"/w"), site.Mkdir("/w"), site.Create("/w/"+z[:40]))
	path := ""
	for range 17 {
		path += "/" + z
		g.All(site.Mkdir(path))
	}
	path += "/" + z // 990 bytes
	g.All(site.Rename("/q", path), site.Rename("/w", path+"/"+z[:30]+"/w"), site.Symlink("/s", "/"+z+"/"+z+"/"+z+"/"+z))
	return g, path
}

func TestP1906Long(t *testing.T) {
	g, path := deep(t)
	z := strings.Repeat("z", 54)
	if len(path) != 990 {
		t.Fatalf("%d bytes", len(path))
	}
	from(g, path, "all", strings.Join([]string{path, path + "/y", path + "/" + z[:30], path + "/" + z[:30] + "/w", path + "/" + z[:31], path + "/" + z[:32]}, " "))
	whole, e := runs(g, "/", "depth >= 18")
	if e != api.OK || len(whole) != 6 || len(whole[4]) != 1022 || len(whole[3]) != 1023 || len(whole[5]) != 1023 {
		t.Errorf("P1906: %d texts, %v", len(whole), e)
	}
	// What is passed over is there: List tells it, though no term can hold at it.
	from(g, path, "has all", path+" "+path+"/"+z[:30])
	from(g, path, "has name "+z[:33], "")
	from(g, path, "has name "+z[:34], "")
	from(g, path, "empty and kind dir", "")
	from(g, path, "not has all and kind dir", path+"/"+z[:30]+"/w "+path+"/"+z[:31])
	// By a shorter way it is found.
	short, e := runs(g, "/s", "name "+z[:33]+" or name in or name w or name "+z[:40])
	if e != api.OK || len(short) != 5 {
		t.Errorf("P1906: from a link: %.2000q, %v", short, e)
	}
	if got, e := runs(g, path+"/"+z[:32], "all"); e != api.OK || len(got) != 1 || len(got[0]) != 1023 {
		t.Errorf("P1906: a start of 1023 bytes: %d, %v", len(got), e)
	}
	if _, e := runs(g, path+"/"+z[:33], "all"); e != api.ErrLong {
		t.Errorf("P1908: a start of 1024 bytes: %v", e)
	}
}

// garden is a tree in which each term holds at something, and just not at another.
func garden(t *testing.T) *site.Ground {
	t.Helper()
	block := strings.Repeat("x", 512)
	return planted(t, api.Super{Sectors: 400, Log: 40, Nodes: 60},
		site.Mkdir("/d"), site.Mkdir("/d/e"), site.Mkdir("/dd"), site.Create("/dd/f"), site.Create("/zero"), site.Create("/one"), site.Write("/one", 0, "1"), site.Create("/hole"), site.Truncate("/hole", 1),
		site.Create("/front"), site.Write("/front", 512, block), site.Create("/middle"), site.Write("/middle", 0, block), site.Write("/middle", 1024, "m"), site.Create("/end"), site.Write("/end", 0, block), site.Truncate("/end", 513),
		site.Create("/full"), site.Write("/full", 0, block+block+"y"), site.Create("/even"), site.Write("/even", 0, block+block), site.Create("/single"), site.Write("/single", 0, strings.Repeat(block, 12)), site.Create("/far"), site.Write("/far", 512*138, "far"),
		site.Create("/big"), site.Write("/big", 65530, "boundary"), site.Create("/edge"), site.Write("/edge", 65533, "end"), site.Create("/cross"), site.Write("/cross", 510, "across"), site.Symlink("/ln", "dd/../dd/f"), site.Symlink("/lost", "none"), site.Symlink("/loop", "loop"), site.Symlink("/dir", "d"), site.Link("/one", "/d/two"),
		site.Mkdir("/gone"), site.Create("/gone/x"), site.Unlink("/gone/x"))
}

func TestP1907Terms(t *testing.T) {
	t.Parallel()
	g := garden(t)
	files := "/big /cross /d/two /dd/f /edge /end /even /far /front /full /hole /middle /one /single /zero"
	for _, c := range []struct{ query, want string }{
		{"kind file", files}, {"kind dir", "/ /d /d/e /dd /gone"}, {"kind link", "/dir /ln /loop /lost"},
		{"empty", "/d/e /dd/f /gone /zero"}, {"sparse", "/big /edge /end /far /front /hole /middle"}, {"kind file and not sparse", "/cross /d/two /dd/f /even /full /one /single /zero"},
		{"size = 0", "/d/e /dd/f /gone /zero"}, {"size = 1", "/d/two /dir /hole /one"}, {"size = 512", "/d /dd"}, {"size = 1536 and kind dir", "/"}, {"size = 10 and kind link", "/ln"}, {"links = 2 and kind file", "/d/two /one"}, {"links = 2 and kind dir", "/d/e /dd /gone"}, {"links = 3", "/d"}, {"links = 5", "/"},
		{"owned = 0", "/d/e /dd/f /gone /hole /zero"}, {"owned = 13", "/single"}, {"owned = 3", "/ /big /far /full"}, {"node = 1", "/"}, {"node < 3", "/ /d"}, {"depth = 0", "/"}, {"depth = 1 and kind dir", "/d /dd /gone"}, {"depth > 1", "/d/e /d/two /dd/f"},
		{"name d", "/d"}, {"name d*", "/d /dd /dir"}, {"name ?", "/d /d/e /dd/f"}, {"name d/e", ""}, {"name /", ""}, {`name ""`, "/"}, {"name *", "/ " + all(g)}, {"path d", ""}, {"path /d", "/d"}, {"path /d*", "/d /dd /dir"}, {"path /d**", "/d /d/e /d/two /dd /dd/f /dir"}, {"path /", "/"}, {"path */*/*", "/d/e /d/two /dd/f"}, {"path **e", "/d/e /edge /gone /hole /middle /one /single"},
		{"target **", "/dir /ln /loop /lost"}, {"target *", "/dir /loop /lost"}, {"target ?", "/dir"}, {"target dd/../dd/f", "/ln"}, {"target loop", "/loop"}, {`target ""`, ""},
		{"under /d", "/d /d/e /d/two"}, {"under /d/", "/d /d/e /d/two"}, {"under /d/e", "/d/e"}, {"under /", "/ " + all(g)}, {"under /none", ""}, {"under /dir", "/dir"}, {"under /d/..", ""}, {"under /..", ""}, {"under /d/e/f", ""}, {"under /dd/../d", ""},
		{"same /d", "/d"}, {"same /dir", "/d"}, {"same /", "/"}, {"same /d/..", "/"}, {"same /one", "/d/two /one"}, {"same /d/two/", "/d/two /one"}, {"same /ln", "/dd/f"}, {"same /lost", ""}, {"same /loop", ""}, {"same /none", ""}, {"same /one/x", ""}, {"same /dir/two", "/d/two /one"},
		{"holds bounda", "/big"}, {"holds boundar", ""}, {"holds ry", ""}, {"holds y", "/full"}, {"holds end", "/edge"}, {"holds d", "/big /dir /edge /ln"}, {"holds across", "/cross"}, {"holds far", ""}, {`holds ""`, strings.Join(sorted(files+" /dir /ln /loop /lost"), " ")}, {`holds "\x00"`, "/big /cross /edge /end /far /front /hole /middle"}, {`holds "\x00m"`, "/middle"}, {`holds "x\x00"`, "/end /middle"}, {`holds "\x00x"`, "/front"}, {"holds 1", "/d/two /one"}, {"holds " + strings.Repeat("x", 255), "/end /even /front /full /middle /single"}, {"holds ..", "/ln"}, {"holds dir", ""}, {"holds one", "/lost"},
		{"begins 1", "/d/two /one"}, {`begins ""`, strings.Join(sorted(files+" /dir /ln /loop /lost"), " ")}, {"begins 11", ""}, {`begins "\x00"`, "/big /cross /edge /far /front /hole"}, {`begins "\x00\x00"`, "/big /cross /edge /far /front"}, {"begins d", "/dir /ln"}, {"begins dd/../dd/f", "/ln"}, {"begins dd/../dd/fx", ""}, {"begins across", ""}, {"begins " + strings.Repeat("x", 255), "/end /even /full /middle /single"},
		{"has all", "/ /d /dd"}, {"has empty", "/ /d /dd"}, {"has kind dir", "/ /d"}, {"has kind link", "/"}, {"has name two", "/d"}, {"has has empty", "/"}, {"has has has all", ""}, {"has not all", ""}, {"not has all and kind dir", "/d/e /gone"}, {"has ( name two and links = 2 )", "/d"}, {"has name two and has name f", ""}, {"has same /one", "/ /d"}, {"has depth = 1", "/"}, {"has depth = 2", "/d /dd"}, {"has ( kind dir and not has all )", "/ /d"},
		{"all", "/ " + all(g)}, {"not all", ""}, {"not not kind link", "/dir /ln /loop /lost"}, {"kind dir or kind link", "/ /d /d/e /dd /dir /gone /ln /loop /lost"}, {"kind dir and kind link", ""}, {"kind dir and name d or name dir", "/d /dir"}, {"name dir or kind dir and name d", "/d /dir"}, {"( name dir or kind dir ) and name d*", "/d /dd /dir"}, {"not kind file and not kind dir", "/dir /ln /loop /lost"}, {"not ( kind file or kind dir )", "/dir /ln /loop /lost"},
	} {
		if got, e := runs(g, "/", c.query); strings.Join(got, " ") != c.want || e != api.OK {
			t.Errorf("P1907: Run(%.100q): %q, %v, want %q", c.query, strings.Join(got, " "), e, c.want)
		}
	}
	from(g, "/dir", "under /d", "")
	from(g, "/dir", "under /dir", "/dir /dir/e /dir/two")
	from(g, "/dir", "same /d or same /one", "/dir /dir/two")
	from(g, "/ln", "empty and begins \"\" and kind file", "/ln")
	from(g, "/d", "has depth = 1", "/d")
	from(g, "/d/..", "under /d", "/d/.. /d/../big /d/../cross /d/../d /d/../d/e /d/../d/two /d/../dd /d/../dd/f /d/../dir /d/../edge /d/../end /d/../even /d/../far /d/../front /d/../full /d/../gone /d/../hole /d/../ln /d/../loop /d/../lost /d/../middle /d/../one /d/../single /d/../zero")
}

// all are the paths below the root.
func all(g *site.Ground) string {
	list := spotsOf(g.F, spot{"/", 0, g.F.Do(site.Stat("/")).Stat})
	return strings.Join(textsOf(list)[1:], " ")
}

func sorted(texts string) []string {
	list := strings.Fields(texts)
	slices.SortFunc(list, site.Order)
	return list
}

// Each number by each sign, just below, at and above what it is.
func TestP1907Numbers(t *testing.T) {
	t.Parallel()
	g := garden(t)
	for _, path := range []string{"/", "/d", "/one", "/single", "/ln", "/far", "/zero", "/d/two"} {
		stat := site.Does(t, g.F, site.Lstat(path), api.OK).Stat
		depth := len(strings.FieldsFunc(path, func(r rune) bool { return r == '/' }))
		for field, is := range map[string]int{"size": stat.Size, "owned": stat.Owned, "links": stat.Links, "node": stat.Node, "depth": depth} {
			for _, n := range []int{is - 1, is, is + 1, is * 10, 0, 999999999} {
				if n < 0 {
					continue
				}
				for sign, holds := range map[string]bool{"<": is < n, "<=": is <= n, "=": is == n, "!=": is != n, ">=": is >= n, ">": is > n} {
					query := fmt.Sprintf("%s %s %d and path %s", field, sign, n, path)
					want := ""
					if holds {
						want = path
					}
					tells(g, query, want)
				}
			}
		}
	}
}

// The order of the errors.
func TestP1908Errors(t *testing.T) {
	g := sample(t)
	long := strings.Repeat
	for _, c := range []struct {
		path, query string
		want        api.Errno
	}{
		{"", "all", api.ErrPath}, {"x", "all", api.ErrPath}, {"x", "(", api.ErrPath}, {"d/", long("x", 1024), api.ErrPath}, {long("x", 1024), "(", api.ErrLong}, {"/" + long("x", 55), "(", api.ErrLong}, {"/\x00", "(", api.ErrName}, {"/x/\x00", "name [", api.ErrName}, {long("/", 1023), "all", api.OK}, {long("/", 1024), "all", api.ErrLong},
		{"/x", "(", api.ErrQuery}, {"/x", "", api.ErrQuery}, {"/x", "name [", api.ErrPattern}, {"/a/b", "under x", api.ErrPath}, {"/x", long("not ", 17), api.ErrDeep}, {"/x", long("x", 1024), api.ErrLong}, {"/", "name [", api.ErrPattern}, {"/", "(", api.ErrQuery}, {"/", "holds " + long("x", 256), api.ErrLong},
		{"/x", "all", api.ErrNotFound}, {"/x/y", "all", api.ErrNotFound}, {"/a/b", "all", api.ErrNotDir}, {"/a/..", "all", api.ErrNotDir}, {"/d/x", "not all", api.ErrNotFound}, {"/a", "not all", api.OK},
	} {
		got, e := runs(g, c.path, c.query)
		if e != c.want || e != api.OK && got != nil {
			t.Errorf("P1908: Run(%.30q, %.30q): %q, %v, want %v", c.path, c.query, got, e, c.want)
		}
		if tally, e := find.Tally(g.F, c.path, c.query); e != api.OK && tally != (api.Tally{}) {
			t.Errorf("P4: Tally(%.30q, %.30q): %+v, %v", c.path, c.query, tally, e)
		}
	}
}

// A dead file system says so ahead of all else, and is not read.
func TestP5Dead(t *testing.T) {
	for _, c := range []struct {
		what string
		end  func(g *site.Ground)
	}{
		{"burnt", func(g *site.Ground) { g.D.Fuse(0) }}, {"cut", func(g *site.Ground) { g.D.Crash(nil) }}, {"taken", func(g *site.Ground) { g.D.Take() }}, {"mounted again", func(g *site.Ground) { site.Mounted(t, g.D) }}, {"burnt and cut", func(g *site.Ground) { g.D.Fuse(0); g.D.Crash(nil) }},
	} {
		g := sample(t)
		c.end(g)
		was := g.D.Counts()
		for _, path := range []string{"/", "/x", "x", ""} {
			for _, query := range []string{"all", "(", "name [", strings.Repeat("x", 1024)} {
				if got, e := find.Run(g.F, path, query); got != nil || e != api.ErrDead {
					t.Errorf("P5: %s: Run(%q, %.20q): %q, %v", c.what, path, query, got, e)
				}
				if seq, e := find.Each(g.F, path, query); seq != nil || e != api.ErrDead {
					t.Errorf("P5: %s: Each(%q, %.20q): %v", c.what, path, query, e)
				}
				if tally, e := find.Tally(g.F, path, query); tally != (api.Tally{}) || e != api.ErrDead {
					t.Errorf("P5: %s: Tally(%q, %.20q): %+v, %v", c.what, path, query, tally, e)
				}
			}
		}
		if now := g.D.Counts(); now != was {
			t.Errorf("P5: %s: the disk was asked: %+v, then %+v", c.what, was, now)
		}
	}
}

func TestP1910Tally(t *testing.T) {
	g := garden(t)
	for _, c := range []struct {
		path, query string
		want        api.Tally
	}{
		{"/", "not all", api.Tally{}}, {"/", "name one or name two", api.Tally{Found: 2, Nodes: 1, Files: 1, Size: 1, Owned: 1}}, {"/", "kind link", api.Tally{Found: 4, Nodes: 4, Links: 4, Size: 1 + 10 + 4 + 4, Owned: 4}}, {"/", "kind dir", api.Tally{Found: 5, Nodes: 5, Dirs: 5, Size: 1536 + 512*2, Owned: 5}},
		{"/d", "all", api.Tally{Found: 3, Nodes: 3, Files: 1, Dirs: 2, Size: 512 + 1, Owned: 2}}, {"/dir", "all", api.Tally{Found: 3, Nodes: 3, Files: 1, Dirs: 2, Size: 512 + 1, Owned: 2}}, {"/ln", "all", api.Tally{Found: 1, Nodes: 1, Files: 1}}, {"/", "name hole or name far", api.Tally{Found: 2, Nodes: 2, Files: 2, Size: 1 + 512*138 + 3, Owned: 3}},
	} {
		runs(g, c.path, c.query)
		got, e := find.Tally(g.F, c.path, c.query)
		if got != c.want || e != api.OK {
			t.Errorf("P1910: Tally(%q, %q): %+v, %v, want %+v", c.path, c.query, got, e, c.want)
		}
	}
}

// Nothing is written, flushed or held, and a file that is held and has no name is not found.
func TestP1911(t *testing.T) {
	g := sample(t)
	_, e := g.F.Hold("/d/c")
	trial.Is(t, "Hold", e, api.OK)
	g.All(site.Unlink("/d/c"), site.Create("/new"))
	g.D.Fuse(1)
	for _, query := range []string{"all", "holds l or begins d/", "sparse or empty or target *", "has has all or same /l", "not name x and path ** and depth < 9"} {
		g.Unchanged("P1911: "+query, func() {
			runs(g, "/", query)
			runs(g, "/none", query)
			if seq, e := find.Each(g.F, "/", query); e == api.OK {
				for range seq {
					break
				}
			}
		})
	}
	tells(g, "all", "/ /a /d /d/b /l /new")
	g.Unchanged("P1911: what is wrong", func() { find.Run(g.F, "/", "name [") })
	if g.D.Burnt() {
		t.Errorf("P1911: the fuse is used up")
	}
}

// The answers are new memory, and hang on nothing but the tree.
func TestP2Answers(t *testing.T) {
	g := sample(t)
	first, _ := find.Run(g.F, "/", "all")
	want := slices.Clone(first)
	for i := range first[:cap(first)] {
		first[:cap(first)][i] = "changed"
	}
	first = append(first, "more")
	for range 3 {
		if got, e := find.Run(g.F, "/", "all"); !slices.Equal(got, want) || e != api.OK {
			t.Fatalf("P2, P3: %q, %v, want %q", got, e, want)
		}
		runs(g, "/", "name [")
		runs(g, "/d", "has all")
	}
}
