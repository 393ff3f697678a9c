package dump_test

import (
	"bytes"
	"cmp"
	"slices"
	"testing"

	"vellum/api"
	"vellum/disk"
	"vellum/dump"
	"vellum/fs"
	"vellum/site"
)

// ground is a disk, and the file system on it.
type ground struct {
	t *testing.T
	d *disk.Disk
	f *fs.FS
}

func onDisk(t *testing.T, d *disk.Disk) *ground {
	t.Helper()
	return &ground{t, d, site.Mounted(t, d)}
}

func fresh(t *testing.T, form api.Super) *ground {
	t.Helper()
	return onDisk(t, site.Made(t, form))
}

// copied is a ground on a disk of its own that holds what is durable on this one.
func (g *ground) copied() *ground {
	g.t.Helper()
	return onDisk(g.t, site.Loaded(g.t, g.d.Image()))
}

func (g *ground) all(ops ...api.Op) {
	g.t.Helper()
	site.All(g.t, g.f, ops...)
}

// saves asks that Save tells just these items; it tells the archive.
func (g *ground) saves(want []api.Item) []byte {
	g.t.Helper()
	archive, e := dump.Save(g.f)
	if e != api.OK {
		g.t.Fatalf("P1503: Save: %v", e)
	}
	items, is := itemsOf(archive)
	if !is || !site.Same(items, want) {
		g.t.Fatalf("P1503: Save tells %.2000s, want %.2000s (an archive: %v)", site.Short(items), site.Short(want), is)
	}
	return archive
}

// unsaved asks that Save is refused.
func (g *ground) unsaved(want api.Errno) {
	g.t.Helper()
	if archive, e := dump.Save(g.f); e != want || len(archive) != 0 {
		g.t.Fatalf("P1503: Save: %d bytes, %v, want %v", len(archive), e, want)
	}
}

func (g *ground) loads(archive []byte, want int, e api.Errno) {
	g.t.Helper()
	if n, err := dump.Load(g.f, archive); n != want || err != e {
		g.t.Fatalf("P1504: Load: %d, %v, want %d, %v", n, err, want, e)
	}
}

// whole asks that a check tells no fault.
func (g *ground) whole() api.Report {
	g.t.Helper()
	report, e := g.f.Check(2)
	if e != api.OK || report.Phase != 0 {
		g.t.Fatalf("P1507: Check: %+v, %v", report, e)
	}
	return report
}

// told are the items of a file system, found otherwise than Save does: level by level, the files by their paths and block by block, and sorted at the end.
func (g *ground) told() []api.Item {
	g.t.Helper()
	var items []api.Item
	nodes := map[string]int{}
	for dirs := []string{""}; len(dirs) > 0; dirs = dirs[1:] {
		for _, entry := range g.does(site.List(cmp.Or(dirs[0], "/"))).Entries {
			item := api.Item{Kind: entry.Kind, Path: dirs[0] + "/" + entry.Name}
			switch entry.Kind {
			case api.KDir:
				dirs = append(dirs, item.Path)
			case api.KLink:
				item.Target = g.does(site.Readlink(item.Path)).Text
			case api.KFile:
				item, nodes[item.Path] = g.file(item.Path), entry.Node
			}
			items = append(items, item)
		}
	}
	slices.SortFunc(items, func(a, b api.Item) int { return site.Order(a.Path, b.Path) })
	first := map[int]string{}
	for i, item := range items {
		node := nodes[item.Path]
		if path, met := first[node]; met {
			items[i] = nameItem(item.Path, path)
		} else if node > 0 {
			first[node] = item.Path
		}
	}
	return items
}

func (g *ground) does(op api.Op) api.Reply {
	g.t.Helper()
	return site.Does(g.t, g.f, op, api.OK)
}

func (g *ground) file(path string) api.Item {
	g.t.Helper()
	item := api.Item{Kind: api.KFile, Path: path, Size: g.does(site.Stat(path)).Stat.Size, Runs: g.does(site.Runs(path)).Runs}
	for _, r := range item.Runs {
		for i := r.From; i < r.To; i++ {
			block := g.does(site.Read(path, 512*i, 512)).Data
			item.Data = append(item.Data, append(block, make([]byte, 512-len(block))...)...)
		}
	}
	return item
}

// asTold asks that Save tells what is there.
func (g *ground) asTold() []byte {
	g.t.Helper()
	return g.saves(g.told())
}

// unchanged asks, behind what is done, that no disk was written and none was flushed, that as much is free as was, and that the same nodes are held.
func (g *ground) unchanged(what string, do func()) {
	g.t.Helper()
	was, image, held := g.d.Counts(), g.d.Image(), g.held()
	blocks, nodes, dead := g.f.Space()
	do()
	now := g.d.Counts()
	if now.Writes != was.Writes || now.Flushes != was.Flushes || now.Pending != was.Pending || now.Refused != was.Refused || !bytes.Equal(g.d.Image(), image) {
		g.t.Fatalf("P1508: %s: the disk was %+v and is %+v", what, was, now)
	}
	if b, n, e := g.f.Space(); b != blocks || n != nodes || e != dead {
		g.t.Fatalf("P1508: %s: Space is %d, %d, %v, and was %d, %d, %v", what, b, n, e, blocks, nodes, dead)
	}
	if now := g.held(); !slices.Equal(now, held) {
		g.t.Fatalf("P1508: %s: the nodes %v are held, and %v were", what, now, held)
	}
}

// held are the nodes that are held.
func (g *ground) held() []int {
	var list []int
	for node := 1; node <= 120; node++ {
		if g.f.Do(api.Op{Kind: api.OpStat, Node: node}).Err == api.OK {
			list = append(list, node)
		}
	}
	return list
}
