package dump_test

import (
	"bytes"
	"fmt"
	"runtime"
	"slices"
	"strings"
	"testing"
	"time"

	"vellum/api"
	"vellum/dump"
	"vellum/site"
	"vellum/trial"
)

var middle = api.Super{Sectors: 120, Log: 18, Nodes: 40}

func TestP1503Examples(t *testing.T) {
	g := fresh(t, middle)
	if b := g.saves(nil); !bytes.Equal(b, bytesOf(nil)) || len(b) != 17 {
		t.Errorf("P1503: an empty one: %v", b)
	}
	g.All(site.Create("/a"), site.Write("/a", 0, "hi"), site.Mkdir("/d"), site.Link("/a", "/d/b"), site.Symlink("/l", "a"))
	if b := g.saves(three()); !bytes.Equal(b, bytesOf(three())) || len(b) != 578 {
		t.Errorf("P1503: example 3: %d bytes", len(b))
	}
}

// The items come in the order of paths, whatever order their names were made in.
func TestP1503Order(t *testing.T) {
	var want []string
	for _, top := range []string{"/A", "/a", "/a\x01", "/a!", "/a.b", "/a0", "/aa", "/b", "/\x80", "/\xff"} {
		want = append(want, top, top+"/\x01", top+"/..z", top+"/Z", top+"/z")
	}
	d := trial.NewDice(1503)
	for range 4 {
		g := fresh(t, api.Super{Sectors: 120, Log: 18, Nodes: 60})
		left := slices.Clone(want)
		for len(left) > 0 {
			i := d.Below(len(left))
			if g.F.Do(site.Mkdir(left[i])).Err == api.OK {
				left = slices.Delete(left, i, i+1)
			}
		}
		var items []api.Item
		for _, p := range want {
			items = append(items, dirItem(p))
		}
		g.saves(items)
	}
}

// A file is at the first of its names in the order of paths, whichever was made first; at all others it is a name of that one.
func TestP1503Names(t *testing.T) {
	g := fresh(t, middle)
	g.All(site.Create("/z"), site.Write("/z", 0, "z"), site.Mkdir("/a"), site.Mkdir("/m"))
	file := func(path string) api.Item {
		item := fileItem(path, 1, 512, run(0, 1))
		item.Data[0] = 'z'
		return item
	}
	a, m := dirItem("/a"), dirItem("/m")
	g.saves([]api.Item{a, m, file("/z")})
	g.All(site.Link("/z", "/m/x"))
	g.saves([]api.Item{a, m, file("/m/x"), nameItem("/z", "/m/x")})
	g.All(site.Link("/z", "/a.b"))
	g.saves([]api.Item{a, file("/a.b"), m, nameItem("/m/x", "/a.b"), nameItem("/z", "/a.b")})
	g.All(site.Link("/z", "/a/z"))
	g.saves([]api.Item{a, file("/a/z"), nameItem("/a.b", "/a/z"), m, nameItem("/m/x", "/a/z"), nameItem("/z", "/a/z")})
	g.All(site.Rename("/a", "/n"))
	g.saves([]api.Item{file("/a.b"), m, nameItem("/m/x", "/a.b"), dirItem("/n"), nameItem("/n/z", "/a.b"), nameItem("/z", "/a.b")})
	g.All(site.Unlink("/a.b"), site.Create("/y"), site.Link("/y", "/q"))
	g.saves([]api.Item{m, file("/m/x"), dirItem("/n"), nameItem("/n/z", "/m/x"), fileItem("/q", 0, 0), nameItem("/y", "/q"), nameItem("/z", "/m/x")})
	g.All(site.Unlink("/m/x"), site.Unlink("/z"), site.Unlink("/q"))
	g.saves([]api.Item{m, dirItem("/n"), file("/n/z"), fileItem("/y", 0, 0)})
}

// Symbolic links are told, never followed.
func TestP1503Links(t *testing.T) {
	g := fresh(t, middle)
	var text []byte
	for x := 1; x < 256; x++ {
		text = append(text, byte(x))
	}
	g.All(site.Mkdir("/d"), site.Create("/d/f"), site.Symlink("/a", "d"), site.Symlink("/b", "/d/f"), site.Symlink("/c", "/none"), site.Symlink("/e", "e"), site.Symlink("/d/up", ".."), site.Symlink("/g", string(text)), site.Symlink("/h", "/"))
	g.saves([]api.Item{linkItem("/a", "d"), linkItem("/b", "/d/f"), linkItem("/c", "/none"), dirItem("/d"), fileItem("/d/f", 0, 0), linkItem("/d/up", ".."), linkItem("/e", "e"), linkItem("/g", string(text)), linkItem("/h", "/")})
}

// The bytes of files, with their holes, at every edge of a block, a piece and a pointer.
func TestP1503Content(t *testing.T) {
	d := trial.NewDice(15031)
	for _, c := range []struct{ off, bytes, size int }{
		{0, 0, 0}, {0, 0, 1}, {0, 0, api.MaxFile}, {0, 1, 1}, {0, 511, 511}, {0, 512, 512}, {0, 513, 513}, {0, 1, 512}, {0, 1, 513}, {511, 1, 512}, {511, 2, 513}, {512, 1, 513}, {512, 1, 1024}, {512, 1, 1025},
		{5120, 512, 5632}, {5119, 2, 5121}, {9 * 512, 1024, 9*512 + 1024}, {137*512 + 1, 800, 140 * 512}, {138 * 512, 3, 138*512 + 3}, {api.MaxFile - 700, 700, api.MaxFile}, {266 * 512, 1, 266*512 + 1},
		{0, 65536, 65536}, {0, 65537, 65537}, {512, 65536, 66048}, {0, 65535, 65535}, {3 * 512, 131072, 131072 + 3*512}, {700, 131073, 150000}, {0, 200 * 512, 200 * 512}, {0, 65536 + 700, 90000},
	} {
		g := fresh(t, api.Super{Sectors: 400, Log: 18, Nodes: 4})
		data := d.Bytes(c.bytes)
		g.All(site.Create("/f"))
		for at := 0; at < len(data); at += api.MaxIO {
			g.All(site.Write("/f", c.off+at, string(data[at:min(len(data), at+api.MaxIO)])))
		}
		g.All(site.Truncate("/f", c.size))
		item := api.Item{Kind: api.KFile, Path: "/f", Size: c.size}
		if c.bytes > 0 {
			from, to := c.off/512, (c.off+c.bytes+511)/512
			item.Runs = []api.Run{{From: from, To: to}}
			item.Data = make([]byte, 512*(to-from))
			copy(item.Data[c.off-512*from:], data)
		}
		g.saves([]api.Item{item})
	}
}

// What a file has become by cutting, punching and writing zeros: a block of zeros is a block, and a hole a hole.
func TestP1503Holes(t *testing.T) {
	g := fresh(t, api.Super{Sectors: 200, Log: 18, Nodes: 8})
	ones := strings.Repeat("\x01", 6*512)
	item := func(size, data int, runs ...api.Run) []api.Item {
		return []api.Item{fileItem("/f", size, data, runs...)}
	}
	g.All(site.Create("/f"), site.Write("/f", 0, ones))
	g.saves(item(3072, 3072, run(0, 6)))
	g.All(site.Truncate("/f", 2100))
	g.saves(item(2100, 2560, run(0, 5)))
	g.All(site.Truncate("/f", 9000))
	cut := fileItem("/f", 9000, 2560, run(0, 5))
	clear(cut.Data[2100:])
	g.saves([]api.Item{cut})
	g.All(site.Punch("/f", 512, 512), site.Punch("/f", 1536, 300))
	punched := fileItem("/f", 9000, 2048, run(0, 1), run(2, 5))
	clear(punched.Data[1024:1324])
	clear(punched.Data[2100-512:])
	g.saves([]api.Item{punched})
	g.All(site.Write("/f", 512, strings.Repeat("\x00", 512)), site.Write("/f", 8000, "\x00"))
	filled := fileItem("/f", 9000, 3072, run(0, 5), run(15, 16))
	clear(filled.Data[512:1024])
	clear(filled.Data[1536:1836])
	clear(filled.Data[2100:])
	g.saves([]api.Item{filled})
	g.All(site.Punch("/f", 0, 9000))
	g.saves([]api.Item{fileItem("/f", 9000, 0)})
	g.All(site.Truncate("/f", 0))
	g.saves([]api.Item{fileItem("/f", 0, 0)})
}

// A file that is held and has no name is not told; one that has a name is, held or not.
func TestP1503Orphans(t *testing.T) {
	g := fresh(t, middle)
	g.All(site.Create("/x"), site.Write("/x", 0, "gone"), site.Create("/y"), site.Create("/z"), site.Link("/z", "/z2"))
	for _, p := range []string{"/x", "/y", "/z"} {
		if _, e := g.F.Hold(p); e != api.OK {
			t.Fatal(e)
		}
	}
	g.All(site.Unlink("/x"), site.Unlink("/z"))
	g.Unchanged("Save with files held", func() { g.saves([]api.Item{fileItem("/y", 0, 0), fileItem("/z2", 0, 0)}) })
	if r := g.F.Do(api.Op{Kind: api.OpRead, Node: 2, N: 9}); string(r.Data) != "gone" {
		t.Errorf("P1508: the orphan holds %q, %v", r.Data, r.Err)
	}
	g.All(site.Unlink("/y"), site.Unlink("/z2"))
	g.Unchanged("Save with orphans alone", func() { g.saves(nil) })
	for node := 2; node <= 4; node++ {
		trial.Is(t, "P1508: Release", g.F.Release(node), api.OK)
		trial.Is(t, "P1508: Release of what is not held any more", g.F.Release(node), api.ErrNotHeld)
	}
}

// A path may have 1023 bytes, and not one more, whatever it is the path of.
func TestP1503LongPath(t *testing.T) {
	for what, leaf := range map[string]func(p string) []api.Op{
		"a directory": func(p string) []api.Op { return []api.Op{site.Mkdir(p)} },
		"a file":      func(p string) []api.Op { return []api.Op{site.Create(p)} },
		"a link":      func(p string) []api.Op { return []api.Op{site.Symlink(p, "x")} },
		"a name":      func(p string) []api.Op { return []api.Op{site.Create("/a"), site.Link("/a", p)} },
		"what lies in a directory": func(p string) []api.Op {
			return []api.Op{site.Mkdir(p[:1021]), site.Create(p[:1021] + "/x")}
		},
	} {
		g := fresh(t, middle)
		top := "/" + strings.Repeat("m", 53)
		path := top
		for range 17 {
			g.All(site.Mkdir(path))
			path += "/" + strings.Repeat("n", 54)
		}
		g.All(site.Mkdir(path))
		path += "/" + strings.Repeat("o", 1023-len(path)-1)
		g.All(leaf(path)...)
		g.asTold()
		g.All(site.Rename(top, top+"m"))
		g.Unchanged("Save of a long path: "+what, func() { g.unsaved(api.ErrLong) })
		g.All(site.Rename(top+"m", "/"+strings.Repeat("k", 53)))
		g.asTold()
	}
}

// crowd is a right list of so many items, in 32 directories, of files with 64 names each.
func crowd(n int) []api.Item {
	var items []api.Item
	first := ""
	for i, k := 0, 0; i < 32; i++ {
		dir := fmt.Sprintf("/d%02d", i)
		items = append(items, dirItem(dir))
		for range (n - 32 + 31 - i) / 32 {
			path := fmt.Sprintf("%s/%04d", dir, k)
			if k%64 == 0 {
				first = path
				items = append(items, fileItem(path, 0, 0))
			} else {
				items = append(items, nameItem(path, first))
			}
			k++
		}
	}
	return items
}

// crowded is a file system with such a list.
func crowded(t *testing.T, n int) *ground {
	t.Helper()
	g := fresh(t, api.Super{Sectors: 900, Log: 200, Nodes: 120})
	for _, item := range crowd(n) {
		trial.Is(t, item.Path, site.Put(g.F, item), api.OK)
	}
	return g
}

// 4096 items are not too many; one more is, at whatever place of the tree.
func TestP1503ManyItems(t *testing.T) {
	t.Parallel()
	g := crowded(t, 4096)
	g.saves(crowd(4096))
	for _, extra := range []string{"/a", "/d07/x", "/z"} {
		g.All(site.Create(extra))
		g.Unchanged("Save of too many", func() { g.unsaved(api.ErrLong) })
		g.All(site.Unlink(extra))
	}
	g.All(site.Create("/y"), site.Create("/z"), site.Mkdir("/z2"))
	g.unsaved(api.ErrLong)
	g.All(site.Unlink("/y"), site.Unlink("/z"), site.Rmdir("/z2"), site.Unlink("/d31/4063"))
	g.asTold()
}

// reads counts what a Save asks of a disk that holds all at home; what it asks later is asked by one that has not ended.
func (g *ground) reads(want api.Errno) int {
	g.T.Helper()
	trial.Is(g.T, "Checkpoint", g.F.Checkpoint(), api.OK)
	was := g.D.Counts().Reads
	_, e := dump.Save(g.F)
	count := g.D.Counts().Reads - was
	trial.Is(g.T, "P1503: Save", e, want)
	for range 20 {
		runtime.Gosched()
	}
	time.Sleep(time.Millisecond)
	if late := g.D.Counts().Reads - was - count; late > 0 {
		g.T.Fatalf("%d reads behind the answer", late)
	}
	return count
}

// A Save that stops early does so at once, and the same way each time, whatever would come later.
func TestP1503StopsEarly(t *testing.T) {
	t.Parallel()
	g := crowded(t, 4600)
	first := g.reads(api.ErrLong)
	g.All(site.Create("/d31/x"), site.Write("/d31/x", 0, strings.Repeat("x", 9000)))
	if now := g.reads(api.ErrLong); now != first {
		t.Errorf("P3: %d reads, and %d before what is told late was changed", now, first)
	}
	g = crowded(t, 4090)
	for i := range 20 {
		g.All(site.Symlink(fmt.Sprintf("/l%02d", i), "x"))
	}
	g.All(site.Unlink("/l07"), site.Create("/l07"), site.Write("/l07", 0, strings.Repeat("x", 30000))) // the item behind the one too many
	first = g.reads(api.ErrLong)
	for range 20 {
		if now := g.reads(api.ErrLong); now != first {
			t.Fatalf("P3: Save makes now %d reads and now %d", first, now)
		}
	}
}

// wide is a right list whose archive has so many bytes, near to the most that may be: names of long paths.
func wide(n int) []api.Item {
	items := deepest(880)
	above := items[len(items)-1].Path
	first := ""
	left := n - len(bytesOf(items))
	for i := 0; left > 4000; i++ {
		dir := fmt.Sprintf("%s/%054d", above, i)
		items = append(items, dirItem(dir))
		left -= 3 + len(dir)
		for k := 0; k < 64 && left > 4000; k++ {
			path := fmt.Sprintf("%s/%054d", dir, k)
			item := nameItem(path, first)
			if k == 0 {
				first = path
				item = fileItem(path, 0, 0)
				left -= 3 + len(path) + 12
			} else {
				left -= 3 + len(path) + 2 + len(first)
			}
			items = append(items, item)
		}
	}
	for i := 0; left > 0; i++ {
		most := min(left, 8+255)
		if left-most > 0 && left-most < 9 {
			most -= 9
		}
		items = append(items, linkItem(fmt.Sprintf("/%02d", 10+i), strings.Repeat("t", most-8)))
		left -= most
	}
	slices.SortFunc(items, func(a, b api.Item) int { return site.Order(a.Path, b.Path) })
	return items
}

// An archive may have 1<<22 bytes, and not one more.
func TestP1503LongArchive(t *testing.T) {
	t.Parallel()
	items := wide(1 << 22)
	archive := bytesOf(items)
	if len(archive) != 1<<22 || broken(items) != 0 {
		t.Fatalf("%d bytes, rule %d", len(archive), broken(items))
	}
	g := fresh(t, api.Super{Sectors: 700, Log: 200, Nodes: 120})
	g.loads(archive, len(items), api.OK)
	g.saves(items)
	g.All(site.Rename("/10", "/100"))
	g.Unchanged("Save of too many bytes", func() { g.unsaved(api.ErrLong) })
	g.All(site.Rename("/100", "/1"))
	if a, e := dump.Save(g.F); e != api.OK || len(a) != 1<<22-1 {
		t.Errorf("P1503: %d bytes, %v", len(a), e)
	}
}

// A file system that is dead says so, whatever it is dead of, and whatever else would be wrong.
func TestP1503Dead(t *testing.T) {
	for what, kill := range map[string]func(g *ground){
		"cut":     func(g *ground) { g.D.Crash(nil) },
		"taken":   func(g *ground) { g.D.Take() },
		"mounted": func(g *ground) { site.Mounted(t, g.D) },
		"burnt":   func(g *ground) { g.D.Fuse(0) },
		"burnt by an operation": func(g *ground) {
			g.D.Fuse(1)
			site.Does(t, g.F, site.Create("/new"), api.ErrDead)
		},
	} {
		g := fresh(t, middle)
		g.All(site.Create("/a"))
		kill(g)
		g.Unchanged(what, func() { g.unsaved(api.ErrDead) })
		for _, archive := range [][]byte{nil, bytesOf(nil), bytesOf(three()), make([]byte, 1<<22+1), make([]byte, 99)} {
			g.Unchanged(what, func() { g.loads(archive, 0, api.ErrDead) })
		}
	}
}

// Save tells what nobody has synced, and changes nothing: the disk is not written, as much is free, and a power cut leaves what it would have left.
func TestP1508(t *testing.T) {
	for _, picks := range append(trial.Picks(), nil) {
		var images [2][]byte
		for i := range images {
			g := fresh(t, middle)
			g.All(site.Mkdir("/d"), site.Create("/d/f"))
			trial.Is(t, "Sync", g.F.Sync(), api.OK)
			for k := range 9 {
				g.All(site.Write("/d/f", 700*k, "some bytes"), site.Create(fmt.Sprint("/", k)))
				if i == 1 {
					g.Unchanged("Save", func() { g.asTold() })
				}
			}
			g.D.Crash(picks)
			images[i] = g.D.Image()
		}
		if !bytes.Equal(images[0], images[1]) {
			t.Errorf("P1508: behind the cut with %v the disks are unlike", picks)
		}
	}
}

// All goroutines have ended when a call answers, also where it stops early.
func TestGoroutines(t *testing.T) {
	g := crowded(t, 4096)
	g.All(site.Create("/a"))
	late := append(many(300), dirItem("/0"))
	was := runtime.NumGoroutine()
	for range 6 {
		g.unsaved(api.ErrLong)
	}
	for range 300 {
		dump.Pack([]api.Item{dirItem("x"), dirItem("/y")})
		dump.Pack(late)
		dump.List(bytesOf(late))
	}
	for range 100 {
		if runtime.NumGoroutine() <= was {
			return
		}
		runtime.Gosched() // one that has ended may still be counted for a moment
	}
	if now := runtime.NumGoroutine(); now > was+2 {
		t.Errorf("there are %d goroutines, and were %d", now, was)
	}
}
