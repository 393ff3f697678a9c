package fs_test

import (
	"strconv"
	"strings"
	"testing"

	"vellum/api"
)

// stats asks what Stat (or Lstat, of a link) tells.
func (p *pair) stats(path string, want api.Stat) {
	p.t.Helper()
	if r := p.does(lstat(path), api.OK); r.Stat != want {
		p.t.Errorf("Lstat %q: %+v, want %+v", path, r.Stat, want)
	}
}

// filled is a file system of small blocks whose room is just what is said.
func filled(t *testing.T, blocks, nodes int) *pair {
	t.Helper()
	p := paired(t, small)
	free, numbers, _ := p.f.Space()
	p.all(create("/fill"))
	for i := range numbers - 1 - nodes {
		p.all(create("/f" + strconv.Itoa(i)))
	}
	for i := 0; i < free-1-blocks; i++ {
		if i == 10 { // the tenth index has a single block too
			free--
			if i >= free-1-blocks {
				break
			}
		}
		p.all(write("/fill", 512*i, "x"))
	}
	if b, n, e := p.f.Space(); b != blocks || n != nodes || e != api.OK {
		t.Fatalf("Space %d, %d, %v, want %d, %d", b, n, e, blocks, nodes)
	}
	return p
}

func TestP1307(t *testing.T) {
	p := planted(t)
	p.answers([]answer{
		{create("/n"), api.OK}, {create("/n"), api.ErrExists}, {create("/d/n/"), api.OK}, {create("/up/../m"), api.OK}, {create("/up/m"), api.OK}, {create("/" + strings.Repeat("x", 54)), api.OK},
		{create("/d"), api.ErrExists}, {create("/l"), api.ErrExists}, {create("/gone"), api.ErrExists}, {create("/self"), api.ErrExists}, {create("/d/."), api.ErrExists},
		{create("/none/x"), api.ErrNotFound}, {create("/gone/x"), api.ErrNotFound}, {create("/a/x"), api.ErrNotDir}, {create("/l/x"), api.ErrNotDir}, {create("/self/x"), api.ErrLoop}, {create("/a/../x"), api.ErrNotDir},
	})
	p.stats("/n", api.Stat{Node: 10, Kind: api.KFile, Links: 1})
	p.stats("/d/m", api.Stat{Node: 13, Kind: api.KFile, Links: 1})
	p.tree()
}

// No number is told ahead of no block; and what is refused leaves nothing.
func TestP1307Room(t *testing.T) {
	for _, make := range []func(path string) api.Op{create, mkdir} {
		p := filled(t, 0, 1) // seven names stand in the root's block
		p.does(make("/n"), api.OK)
		p.does(make("/m"), api.ErrNoNodes)
		p.tree()
		p.all(unlink("/f0"), create("/f0"))
		p = filled(t, 1, 2)
		p.all(mkdir("/d"))
		p.does(make("/d/x"), api.OK)
		p.does(make("/d/y"), api.ErrNoNodes)
		p = filled(t, 0, 2)
		p.all(mkdir("/d"))
		p.does(make("/d/x"), api.ErrNoSpace)
		p.does(make("/x"), api.OK)
		p.does(make("/d/x"), api.ErrNoNodes)
		p.tree()
	}
}

func TestP1308(t *testing.T) {
	p := planted(t)
	p.answers([]answer{
		{mkdir("/d/n"), api.OK}, {mkdir("/up/n"), api.ErrExists}, {mkdir("/d/n/m"), api.OK}, {mkdir("/gone"), api.ErrExists}, {mkdir("/a"), api.ErrExists}, {mkdir("/none/x"), api.ErrNotFound}, {mkdir("/a/x"), api.ErrNotDir}, {mkdir("/self/x"), api.ErrLoop},
	})
	p.stats("/d", api.Stat{Node: 3, Kind: api.KDir, Links: 3, Size: 512, Owned: 1})
	p.stats("/d/n", api.Stat{Node: 10, Kind: api.KDir, Links: 3, Size: 512, Owned: 1})
	p.stats("/d/n/m/..", api.Stat{Node: 10, Kind: api.KDir, Links: 3, Size: 512, Owned: 1})
	p.stats("/d/n/m", api.Stat{Node: 11, Kind: api.KDir, Links: 2})
	p.tree()
}

// A directory has as many directories in it as it may have links less two.
func TestP1308Links(t *testing.T) {
	p := paired(t, api.Super{Sectors: 120, Log: 18, Nodes: 72})
	for i := range 62 {
		p.all(mkdir("/" + strconv.Itoa(i)))
	}
	p.stats("/", api.Stat{Node: 1, Kind: api.KDir, Links: 64, Size: 8 * 512, Owned: 8})
	p.answers([]answer{
		{mkdir("/more"), api.ErrLinks}, {mkdir("/0"), api.ErrExists}, {create("/file"), api.OK}, {mkdir("/0/more"), api.OK},
		{rename("/0/more", "/more"), api.ErrLinks}, {rename("/1", "/one"), api.OK}, // in the same parent
		{rename("/0/more", "/2"), api.OK}, // one goes where one comes
		{rename("/one", "/3"), api.OK}, {mkdir("/one"), api.OK}, {mkdir("/0/more"), api.OK}, {rename("/0/more", "/file"), api.ErrNotDir},
	})
	p.stats("/", api.Stat{Node: 1, Kind: api.KDir, Links: 64, Size: 8 * 512, Owned: 8})
	for i := range 7 {
		p.all(create("/0/" + strconv.Itoa(i)))
	}
	for p.f.Do(create("/0/x"+strconv.Itoa(len(p.m.things)))).Err == api.OK { // till no number is free
		p.m = modelOf(t, synced(t, p))
	}
	p.does(create("/new"), api.ErrNoNodes)
	p.does(mkdir("/new"), api.ErrLinks) // ahead of room
	p.tree()
}

// synced is the image that holds all that was done.
func synced(t *testing.T, p *pair) []byte {
	t.Helper()
	is(t, "Sync", p.f.Sync(), api.OK)
	return p.d.Image()
}

func TestP1309(t *testing.T) {
	p := planted(t)
	for i, text := range []string{"x", ".", "..", "/", "//", "/a", "\xff\x01", strings.Repeat("/..", 85), strings.Repeat("t", 255)} {
		path := "/d/" + strconv.Itoa(i)
		p.all(symlink(path, text))
		if r := p.does(readlink(path), api.OK); r.Text != text || r.N != len(text) {
			t.Errorf("P1309: %q, %d, want %q", r.Text, r.N, text)
		}
		p.all(unlink(path))
	}
	p.all(symlink("/up/s", "b"))
	p.stats("/d/s", api.Stat{Node: 10, Kind: api.KLink, Links: 1, Size: 1, Owned: 1})
	p.answers([]answer{{symlink("/d", "x"), api.ErrExists}, {symlink("/gone", "x"), api.ErrExists}, {symlink("/none/x", "x"), api.ErrNotFound}, {symlink("/a/x", "x"), api.ErrNotDir}})
	p.tree()
	for _, c := range []struct {
		blocks, nodes int
		path          string
		want          api.Errno
	}{{1, 1, "/s", api.OK}, {0, 1, "/s", api.ErrNoSpace}, {2, 2, "/d/s", api.OK}, {1, 2, "/d/s", api.ErrNoSpace}, {0, 2, "/d/s", api.ErrNoSpace}, {9, 1, "/d/s", api.ErrNoNodes}, {0, 1, "/d/s", api.ErrNoNodes}} {
		p := filled(t, c.blocks, c.nodes)
		p.all(mkdir("/d"))
		if c.path == "/s" {
			p.all(rmdir("/d"))
		}
		p.does(symlink(c.path, "x"), c.want)
		p.tree()
	}
}

func TestP1310(t *testing.T) {
	p := planted(t)
	p.answers([]answer{
		{link("/a", "/n"), api.OK}, {link("/l", "/m"), api.OK}, {link("/up/b", "/up/c"), api.OK},
		{link("/a", "/n"), api.ErrExists}, {link("/a", "/a"), api.ErrExists}, {link("/a", "/gone"), api.ErrExists}, {link("/a", "/d"), api.ErrExists},
		{link("/none", "/x"), api.ErrNotFound}, {link("/gone", "/x"), api.ErrNotFound}, {link("/none/x", "/none/y"), api.ErrNotFound}, {link("/self", "/x"), api.ErrLoop}, {link("/a/x", "/x"), api.ErrNotDir},
		{link("/d", "/x"), api.ErrIsDir}, {link("/up", "/x"), api.ErrIsDir}, {link("/d", "/a/x"), api.ErrIsDir}, {link("/none", "/a/x"), api.ErrNotFound}, {link("/a", "/a/x"), api.ErrNotDir}, {link("/a", "/none/x"), api.ErrNotFound}, {link("/a", "/self/x"), api.ErrLoop},
	})
	p.stats("/n", api.Stat{Node: 2, Kind: api.KFile, Links: 2, Size: 4, Owned: 1})
	p.stats("/m", api.Stat{Node: 4, Kind: api.KFile, Links: 3})
	p.all(write("/n", 0, "other"), unlink("/a"))
	if r := p.does(read("/n", 0, 9), api.OK); string(r.Data) != "other" {
		t.Errorf("P1310: %q", r.Data)
	}
	p.tree()
}

func TestP1310Links(t *testing.T) {
	p := filled(t, 16, 0)
	for i := 1; i < 64; i++ {
		p.all(link("/fill", "/l"+strconv.Itoa(i)))
	}
	p.answers([]answer{{link("/fill", "/more"), api.ErrLinks}, {link("/fill", "/l1"), api.ErrExists}, {link("/fill", "/none/x"), api.ErrNotFound}, {rename("/l1", "/l2"), api.OK}, {rename("/l1", "/other"), api.OK}})
	p.all(unlink("/l2"), link("/other", "/more"))
	p.does(link("/more", "/l2"), api.ErrLinks)
	p.tree()
	p = filled(t, 0, 0) // no number is needed, nor a block where a slot is empty
	p.all(link("/fill", "/l"))
	p.does(link("/fill", "/more"), api.ErrNoSpace)
	p.tree()
}

func TestP1311(t *testing.T) {
	p := planted(t)
	p.answers([]answer{
		{unlink("/none"), api.ErrNotFound}, {unlink("/none/x"), api.ErrNotFound}, {unlink("/d"), api.ErrIsDir}, {unlink("/e/."), api.ErrIsDir}, {unlink("/a/x"), api.ErrNotDir}, {unlink("/self/x"), api.ErrLoop},
		{link("/a", "/d/a"), api.OK}, {unlink("/a"), api.OK}, {unlink("/a"), api.ErrNotFound}, {read("/d/a", 0, 9), api.OK}, {unlink("/up/a"), api.OK},
		{unlink("/up"), api.OK}, {unlink("/gone"), api.OK}, {unlink("/self"), api.OK}, {unlink("/l"), api.OK}, {list("/d"), api.OK}, {unlink("/d/b"), api.OK},
	})
	p.stats("/d", api.Stat{Node: 3, Kind: api.KDir, Links: 2})
	p.tree()
	// what it owned is free, indirect blocks too; and a full disk can be emptied
	p = filled(t, 30, 6)
	free, _, _ := p.f.Space()
	p.all(create("/big"), write("/big", 512*9, strings.Repeat("x", 2000)), write("/big", 512*137, strings.Repeat("x", 3000)), write("/big", 8000000, "x"))
	p.all(unlink("/big"))
	if now, _, _ := p.f.Space(); now != free {
		t.Errorf("P1311: %d blocks are free, %d before", now, free)
	}
	p = filled(t, 0, 0)
	p.all(unlink("/fill"))
	p.tree()
}

func TestP1312(t *testing.T) {
	p := planted(t)
	p.answers([]answer{
		{rmdir("/none"), api.ErrNotFound}, {rmdir("/none/x"), api.ErrNotFound}, {rmdir("/a"), api.ErrNotDir}, {rmdir("/l"), api.ErrNotDir}, {rmdir("/up"), api.ErrNotDir}, {rmdir("/gone"), api.ErrNotDir}, {rmdir("/a/x"), api.ErrNotDir}, {rmdir("/d"), api.ErrNotEmpty}, {rmdir("/d/../d/."), api.ErrNotEmpty},
		{mkdir("/d/n"), api.OK}, {mkdir("/d/n/m"), api.OK}, {rmdir("/d/n"), api.ErrNotEmpty}, {rmdir("/up/n/m"), api.OK}, {rmdir("/up/n"), api.OK}, {rmdir("/d/n"), api.ErrNotFound},
		{unlink("/d/b"), api.OK}, {rmdir("/d"), api.OK}, {stat("/up"), api.ErrNotFound}, {rmdir("/e"), api.OK},
	})
	p.stats("/", api.Stat{Node: 1, Kind: api.KDir, Links: 2, Size: 512, Owned: 1})
	for i := range 30 { // one that had entries in many blocks owns none
		if i == 0 {
			p.all(mkdir("/big"))
		}
		p.all(link("/a", "/big/"+strconv.Itoa(i)))
	}
	for i := range 30 {
		p.does(rmdir("/big"), api.ErrNotEmpty)
		p.all(unlink("/big/" + strconv.Itoa((i*7)%30)))
	}
	p.all(rmdir("/big"))
	p.tree()
}
