package fs_test

import (
	"strconv"
	"strings"
	"testing"

	"vellum/api"
	"vellum/site"
)

// stats asks what Stat (or Lstat, of a link) tells.
func (p *pair) stats(path string, want api.Stat) {
	p.t.Helper()
	if r := p.does(site.Lstat(path), api.OK); r.Stat != want {
		p.t.Errorf("Lstat %q: %+v, want %+v", path, r.Stat, want)
	}
}

// filled is a file system of small blocks whose room is just what is said.
func filled(t *testing.T, blocks, nodes int) *pair {
	t.Helper()
	p := paired(t, small)
	free, numbers, _ := p.f.Space()
	p.all(site.Create("/fill"))
	for i := range numbers - 1 - nodes {
		p.all(site.Create("/f" + strconv.Itoa(i)))
	}
	for i := 0; i < free-1-blocks; i++ {
		if i == 10 { // the tenth index has a single block too
			free--
			if i >= free-1-blocks {
				break
			}
		}
		p.all(site.Write("/fill", 512*i, "x"))
	}
	if b, n, e := p.f.Space(); b != blocks || n != nodes || e != api.OK {
		t.Fatalf("Space %d, %d, %v, want %d, %d", b, n, e, blocks, nodes)
	}
	return p
}

func TestP1307(t *testing.T) {
	p := planted(t)
	p.answers([]answer{
		{site.Create("/n"), api.OK}, {site.Create("/n"), api.ErrExists}, {site.Create("/d/n/"), api.OK}, {site.Create("/up/../m"), api.OK}, {site.Create("/up/m"), api.OK}, {site.Create("/" + strings.Repeat("x", 54)), api.OK},
		{site.Create("/d"), api.ErrExists}, {site.Create("/l"), api.ErrExists}, {site.Create("/gone"), api.ErrExists}, {site.Create("/self"), api.ErrExists}, {site.Create("/d/."), api.ErrExists},
		{site.Create("/none/x"), api.ErrNotFound}, {site.Create("/gone/x"), api.ErrNotFound}, {site.Create("/a/x"), api.ErrNotDir}, {site.Create("/l/x"), api.ErrNotDir}, {site.Create("/self/x"), api.ErrLoop}, {site.Create("/a/../x"), api.ErrNotDir},
	})
	p.stats("/n", api.Stat{Node: 10, Kind: api.KFile, Links: 1})
	p.stats("/d/m", api.Stat{Node: 13, Kind: api.KFile, Links: 1})
	p.tree()
}

// No number is told ahead of no block; and what is refused leaves nothing.
func TestP1307Room(t *testing.T) {
	for _, make := range []func(path string) api.Op{site.Create, site.Mkdir} {
		p := filled(t, 0, 1) // seven names stand in the root's block
		p.does(make("/n"), api.OK)
		p.does(make("/m"), api.ErrNoNodes)
		p.tree()
		p.all(site.Unlink("/f0"), site.Create("/f0"))
		p = filled(t, 1, 2)
		p.all(site.Mkdir("/d"))
		p.does(make("/d/x"), api.OK)
		p.does(make("/d/y"), api.ErrNoNodes)
		p = filled(t, 0, 2)
		p.all(site.Mkdir("/d"))
		p.does(make("/d/x"), api.ErrNoSpace)
		p.does(make("/x"), api.OK)
		p.does(make("/d/x"), api.ErrNoNodes)
		p.tree()
	}
}

func TestP1308(t *testing.T) {
	p := planted(t)
	p.answers([]answer{
		{site.Mkdir("/d/n"), api.OK}, {site.Mkdir("/up/n"), api.ErrExists}, {site.Mkdir("/d/n/m"), api.OK}, {site.Mkdir("/gone"), api.ErrExists}, {site.Mkdir("/a"), api.ErrExists}, {site.Mkdir("/none/x"), api.ErrNotFound}, {site.Mkdir("/a/x"), api.ErrNotDir}, {site.Mkdir("/self/x"), api.ErrLoop},
	})
	p.stats("/d", api.Stat{Node: 3, Kind: api.KDir, Links: 3, Size: 512, Owned: 1})
	p.stats("/d/n", api.Stat{Node: 10, Kind: api.KDir, Links: 3, Size: 512, Owned: 1})
	p.stats("/d/n/m/..", api.Stat{Node: 10, Kind: api.KDir, Links: 3, Size: 512, Owned: 1})
	p.stats("/d/n/m", api.Stat{Node: 11, Kind: api.KDir, Links: 2})
	p.tree()
}

// A directory has as many directories in it as it may have links less two.
func TestP1308Links(t *testing.T) {
	p := paired(t, api.Super{Sectors: 120, Log: 18, Nodes: 72})
	for i := range 62 {
		p.all(site.Mkdir("/" + strconv.Itoa(i)))
	}
	p.stats("/", api.Stat{Node: 1, Kind: api.KDir, Links: 64, Size: 8 * 512, Owned: 8})
	p.answers([]answer{
		{site.Mkdir("/more"), api.ErrLinks}, {site.Mkdir("/0"), api.ErrExists}, {site.Create("/file"), api.OK}, {site.Mkdir("/0/more"), api.OK},
		{site.Rename("/0/more", "/more"), api.ErrLinks}, {site.Rename("/1", "/one"), api.OK}, // in the same parent
		{site.Rename("/0/more", "/2"), api.OK}, // one goes where one comes
		{site.Rename("/one", "/3"), api.OK}, {site.Mkdir("/one"), api.OK}, {site.Mkdir("/0/more"), api.OK}, {site.Rename("/0/more", "/file"), api.ErrNotDir},
	})
	p.stats("/", api.Stat{Node: 1, Kind: api.KDir, Links: 64, Size: 8 * 512, Owned: 8})
	for i := range 7 {
		p.all(site.Create("/0/" + strconv.Itoa(i)))
	}
	for p.f.Do(site.Create("/0/x"+strconv.Itoa(len(p.m.things)))).Err == api.OK { // till no number is free
		p.m = modelOf(t, synced(t, p))
	}
	p.does(site.Create("/new"), api.ErrNoNodes)
	p.does(site.Mkdir("/new"), api.ErrLinks) // ahead of room
	p.tree()
}

// synced is the image that holds all that was done.
func synced(t *testing.T, p *pair) []byte {
	t.Helper()
	is(t, "Sync", p.f.Sync(), api.OK)
	return p.d.Image()
}

func TestP1309(t *testing.T) {
	p := planted(t)
	for i, text := range []string{"x", ".", "..", "/", "//", "/a", "\xff\x01", strings.Repeat("/..", 85), strings.Repeat("t", 255)} {
		path := "/d/" + strconv.Itoa(i)
		p.all(site.Symlink(path, text))
		if r := p.does(site.Readlink(path), api.OK); r.Text != text || r.N != len(text) {
			t.Errorf("P1309: %q, %d, want %q", r.Text, r.N, text)
		}
		p.all(site.Unlink(path))
	}
	p.all(site.Symlink("/up/s", "b"))
	p.stats("/d/s", api.Stat{Node: 10, Kind: api.KLink, Links: 1, Size: 1, Owned: 1})
	p.answers([]answer{{site.Symlink("/d", "x"), api.ErrExists}, {site.Symlink("/gone", "x"), api.ErrExists}, {site.Symlink("/none/x", "x"), api.ErrNotFound}, {site.Symlink("/a/x", "x"), api.ErrNotDir}})
	p.tree()
	for _, c := range []struct {
		blocks, nodes int
		path          string
		want          api.Errno
	}{{1, 1, "/s", api.OK}, {0, 1, "/s", api.ErrNoSpace}, {2, 2, "/d/s", api.OK}, {1, 2, "/d/s", api.ErrNoSpace}, {0, 2, "/d/s", api.ErrNoSpace}, {9, 1, "/d/s", api.ErrNoNodes}, {0, 1, "/d/s", api.ErrNoNodes}} {
		p := filled(t, c.blocks, c.nodes)
		p.all(site.Mkdir("/d"))
		if c.path == "/s" {
			p.all(site.Rmdir("/d"))
		}
		p.does(site.Symlink(c.path, "x"), c.want)
		p.tree()
	}
}

func TestP1310(t *testing.T) {
	p := planted(t)
	p.answers([]answer{
		{site.Link("/a", "/n"), api.OK}, {site.Link("/l", "/m"), api.OK}, {site.Link("/up/b", "/up/c"), api.OK},
		{site.Link("/a", "/n"), api.ErrExists}, {site.Link("/a", "/a"), api.ErrExists}, {site.Link("/a", "/gone"), api.ErrExists}, {site.Link("/a", "/d"), api.ErrExists},
		{site.Link("/none", "/x"), api.ErrNotFound}, {site.Link("/gone", "/x"), api.ErrNotFound}, {site.Link("/none/x", "/none/y"), api.ErrNotFound}, {site.Link("/self", "/x"), api.ErrLoop}, {site.Link("/a/x", "/x"), api.ErrNotDir},
		{site.Link("/d", "/x"), api.ErrIsDir}, {site.Link("/up", "/x"), api.ErrIsDir}, {site.Link("/d", "/a/x"), api.ErrIsDir}, {site.Link("/none", "/a/x"), api.ErrNotFound}, {site.Link("/a", "/a/x"), api.ErrNotDir}, {site.Link("/a", "/none/x"), api.ErrNotFound}, {site.Link("/a", "/self/x"), api.ErrLoop},
	})
	p.stats("/n", api.Stat{Node: 2, Kind: api.KFile, Links: 2, Size: 4, Owned: 1})
	p.stats("/m", api.Stat{Node: 4, Kind: api.KFile, Links: 3})
	p.all(site.Write("/n", 0, "other"), site.Unlink("/a"))
	if r := p.does(site.Read("/n", 0, 9), api.OK); string(r.Data) != "other" {
		t.Errorf("P1310: %q", r.Data)
	}
	p.tree()
}

func TestP1310Links(t *testing.T) {
	p := filled(t, 16, 0)
	for i := 1; i < 64; i++ {
		p.all(site.Link("/fill", "/l"+strconv.Itoa(i)))
	}
	p.answers([]answer{{site.Link("/fill", "/more"), api.ErrLinks}, {site.Link("/fill", "/l1"), api.ErrExists}, {site.Link("/fill", "/none/x"), api.ErrNotFound}, {site.Rename("/l1", "/l2"), api.OK}, {site.Rename("/l1", "/other"), api.OK}})
	p.all(site.Unlink("/l2"), site.Link("/other", "/more"))
	p.does(site.Link("/more", "/l2"), api.ErrLinks)
	p.tree()
	p = filled(t, 0, 0) // no number is needed, nor a block where a slot is empty
	p.all(site.Link("/fill", "/l"))
	p.does(site.Link("/fill", "/more"), api.ErrNoSpace)
	p.tree()
}

func TestP1311(t *testing.T) {
	p := planted(t)
	p.answers([]answer{
		{site.Unlink("/none"), api.ErrNotFound}, {site.Unlink("/none/x"), api.ErrNotFound}, {site.Unlink("/d"), api.ErrIsDir}, {site.Unlink("/e/."), api.ErrIsDir}, {site.Unlink("/a/x"), api.ErrNotDir}, {site.Unlink("/self/x"), api.ErrLoop},
		{site.Link("/a", "/d/a"), api.OK}, {site.Unlink("/a"), api.OK}, {site.Unlink("/a"), api.ErrNotFound}, {site.Read("/d/a", 0, 9), api.OK}, {site.Unlink("/up/a"), api.OK},
		{site.Unlink("/up"), api.OK}, {site.Unlink("/gone"), api.OK}, {site.Unlink("/self"), api.OK}, {site.Unlink("/l"), api.OK}, {site.List("/d"), api.OK}, {site.Unlink("/d/b"), api.OK},
	})
	p.stats("/d", api.Stat{Node: 3, Kind: api.KDir, Links: 2})
	p.tree()
	// what it owned is free, indirect blocks too; and a full disk can be emptied
	p = filled(t, 30, 6)
	free, _, _ := p.f.Space()
	p.all(site.Create("/big"), site.Write("/big", 512*9, strings.Repeat("x", 2000)), site.Write("/big", 512*137, strings.Repeat("x", 3000)), site.Write("/big", 8000000, "x"))
	p.all(site.Unlink("/big"))
	if now, _, _ := p.f.Space(); now != free {
		t.Errorf("P1311: %d blocks are free, %d before", now, free)
	}
	p = filled(t, 0, 0)
	p.all(site.Unlink("/fill"))
	p.tree()
}

func TestP1312(t *testing.T) {
	p := planted(t)
	p.answers([]answer{
		{site.Rmdir("/none"), api.ErrNotFound}, {site.Rmdir("/none/x"), api.ErrNotFound}, {site.Rmdir("/a"), api.ErrNotDir}, {site.Rmdir("/l"), api.ErrNotDir}, {site.Rmdir("/up"), api.ErrNotDir}, {site.Rmdir("/gone"), api.ErrNotDir}, {site.Rmdir("/a/x"), api.ErrNotDir}, {site.Rmdir("/d"), api.ErrNotEmpty}, {site.Rmdir("/d/../d/."), api.ErrNotEmpty},
		{site.Mkdir("/d/n"), api.OK}, {site.Mkdir("/d/n/m"), api.OK}, {site.Rmdir("/d/n"), api.ErrNotEmpty}, {site.Rmdir("/up/n/m"), api.OK}, {site.Rmdir("/up/n"), api.OK}, {site.Rmdir("/d/n"), api.ErrNotFound},
		{site.Unlink("/d/b"), api.OK}, {site.Rmdir("/d"), api.OK}, {site.Stat("/up"), api.ErrNotFound}, {site.Rmdir("/e"), api.OK},
	})
	p.stats("/", api.Stat{Node: 1, Kind: api.KDir, Links: 2, Size: 512, Owned: 1})
	for i := range 30 { // one that had entries in many blocks owns none
		if i == 0 {
			p.all(site.Mkdir("/big"))
		}
		p.all(site.Link("/a", "/big/"+strconv.Itoa(i)))
	}
	for i := range 30 {
		p.does(site.Rmdir("/big"), api.ErrNotEmpty)
		p.all(site.Unlink("/big/" + strconv.Itoa((i*7)%30)))
	}
	p.all(site.Rmdir("/big"))
	p.tree()
}
