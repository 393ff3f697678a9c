package dump_test

import (
	"cmp"
	"slices"

	"vellum/api"
	"vellum/disk"
	"vellum/dump"
	"vellum/site"
	"vellum/trial"
)

// ground is a file system that is saved and loaded.
type ground struct {
	*site.Ground
}

func onDisk(t trial.T, d *disk.Disk) *ground {
	t.Helper()
	return &ground{site.OnDisk(t, d)}
}

func fresh(t trial.T, form api.Super) *ground {
	t.Helper()
	return &ground{site.Fresh(t, form)}
}

func (g *ground) copied() *ground {
	g.T.Helper()
	return &ground{g.Copied()}
}

func (g *ground) synced() *ground {
	g.T.Helper()
	g.Synced()
	return g
}

// saves asks that Save tells just these items; it tells the archive.
func (g *ground) saves(want []api.Item) []byte {
	g.T.Helper()
	archive, e := dump.Save(g.F)
	if e != api.OK {
		g.T.Fatalf("P1503: Save: %v", e)
	}
	items, is := itemsOf(archive)
	if !is || !site.Same(items, want) {
		g.T.Fatalf("P1503: Save tells %.2000s, want %.2000s (an archive: %v)", site.Short(items), site.Short(want), is)
	}
	return archive
}

// unsaved asks that Save is refused.
func (g *ground) unsaved(want api.Errno) {
	g.T.Helper()
	if archive, e := dump.Save(g.F); e != want || len(archive) != 0 {
		g.T.Fatalf("P1503: Save: %d bytes, %v, want %v", len(archive), e, want)
	}
}

func (g *ground) loads(archive []byte, want int, e api.Errno) {
	g.T.Helper()
	if n, err := dump.Load(g.F, archive); n != want || err != e {
		g.T.Fatalf("P1504: Load: %d, %v, want %d, %v", n, err, want, e)
	}
}

// told are the items of a file system, found otherwise than Save does: level by level, the files by their paths and block by block, and sorted at the end.
func (g *ground) told() []api.Item {
	g.T.Helper()
	var items []api.Item
	nodes := map[string]int{}
	for dirs := []string{""}; len(dirs) > 0; dirs = dirs[1:] {
		for _, entry := range g.does(site.List(cmp.Or(dirs[0], "/"))).Entries {
			item := api.Item{Kind: entry.Kind, Path: dirs[0] + "/" + entry.Name}
			switch entry.Kind {
			case api.KDir:
				dirs = append(dirs, item.Path)
			case api.KLink:
				item.Target = g.does(site.Readlink(item.Path)).Text
			case api.KFile:
				item, nodes[item.Path] = g.file(item.Path), entry.Node
			}
			items = append(items, item)
		}
	}
	slices.SortFunc(items, func(a, b api.Item) int { return site.Order(a.Path, b.Path) })
	first := map[int]string{}
	for i, item := range items {
		node := nodes[item.Path]
		if path, met := first[node]; met {
			items[i] = nameItem(item.Path, path)
		} else if node > 0 {
			first[node] = item.Path
		}
	}
	return items
}

func (g *ground) does(op api.Op) api.Reply {
	g.T.Helper()
	return site.Does(g.T, g.F, op, api.OK)
}

func (g *ground) file(path string) api.Item {
	g.T.Helper()
	item := api.Item{Kind: api.KFile, Path: path, Size: g.does(site.Stat(path)).Stat.Size, Runs: g.does(site.Runs(path)).Runs}
	for _, r := range item.Runs {
		for i := r.From; i < r.To; i++ {
			block := g.does(site.Read(path, 512*i, 512)).Data
			item.Data = append(item.Data, append(block, make([]byte, 512-len(block))...)...)
		}
	}
	return item
}

// asTold asks that Save tells what is there.
func (g *ground) asTold() []byte {
	g.T.Helper()
	return g.saves(g.told())
}
