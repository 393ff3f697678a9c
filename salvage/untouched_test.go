package salvage_test

import (
	"bytes"
	"slices"
	"strings"
	"testing"

	"vellum/api"
	"vellum/codec"
	"vellum/fs"
	"vellum/salvage"
	"vellum/site"
	"vellum/trial"
)

// need is what a name of a whole tree needs: the home blocks in which lie the slots and the blocks of the nodes on its way.
type need struct {
	item   api.Item
	blocks map[int]bool
}

// needs are those of all names of an image that mounts, whose log is empty. The items are those that a mount tells; a name of a file, of which another one is the first, has the file's bytes too.
func needs(t *testing.T, image []byte, form api.Super) []need {
	t.Helper()
	l, e := codec.Plan(form)
	is(t, "Plan", e, api.OK)
	m := readByWords(image, form, l)
	owned := map[int][]int{}
	for block, node := range m.owner {
		owned[node] = append(owned[node], block)
	}
	_, f, taken := mounted(t, image)
	if !taken {
		t.Fatalf("the image does not mount")
	}
	items, _, e := itemsByWords(image, form)
	is(t, "the words", e, api.OK)
	content := map[string]api.Item{}
	var list []need
	for _, x := range items {
		switch x.Kind {
		case api.KFile:
			content[x.Path] = x
		case api.KName:
			path := x.Path
			x = content[x.Target]
			x.Path = path
		}
		blocks := map[int]bool{}
		for _, k := range onTheWay(t, f, x.Path) {
			blocks[2+(k-1)/4] = true
			for _, b := range owned[k] {
				blocks[b] = true
			}
		}
		list = append(list, need{x, blocks})
	}
	return list
}

// onTheWay are the nodes from the root to a path.
func onTheWay(t *testing.T, f *fs.FS, path string) []int {
	t.Helper()
	nodes := []int{1}
	for at := 1; at <= len(path); at++ {
		if at == len(path) || path[at] == '/' {
			nodes = append(nodes, site.Does(t, f, site.Lstat(path[:at]), api.OK).Stat.Node)
		}
	}
	return nodes
}

// kept asks that what was not touched is told; it says how many names that were.
func kept(t *testing.T, image []byte, form api.Super, list []need, touched map[int]bool) int {
	t.Helper()
	items, losses, e := salvage.Items(image, form)
	is(t, "Items", e, api.OK)
	if slices.ContainsFunc(losses, func(l api.Loss) bool { return l.Kind == api.LMany }) {
		t.Fatalf("there are too many items")
	}
	found := map[string]api.Item{}
	for _, x := range items {
		found[x.Path] = x
		if x.Kind == api.KName {
			first := found[x.Target]
			first.Path = x.Path
			found[x.Path] = first
		}
	}
	count := 0
	for _, n := range list {
		if slices.ContainsFunc(trial.Span(0, form.Sectors), func(b int) bool { return touched[b] && n.blocks[b] }) {
			continue
		}
		count++
		if x, there := found[n.item.Path]; !there || !site.Same([]api.Item{x}, []api.Item{n.item}) {
			t.Fatalf("P1708: %q: %s, want %s", n.item.Path, site.Short([]api.Item{x}), site.Short([]api.Item{n.item}))
		}
	}
	return count
}

// sweep overwrites drawn home sectors of an image, again and again, and asks for what was not touched.
func sweep(t *testing.T, d *trial.Dice, image []byte, form api.Super, rounds int) (names, all int) {
	t.Helper()
	list := needs(t, image, form)
	home := 3 + form.Log
	for range rounds {
		broken, touched := bytes.Clone(image), map[int]bool{}
		for range trial.One(d, 1, 1, 2, 3, 8, form.Sectors/4) {
			b := trial.One(d, d.Below(form.Sectors-home), d.Below(min(form.Sectors-home, 12)))
			touched[b] = true
			fill(broken, home+b, trial.One(d, 0, 0, 1, 2, 3, 255, byte(d.Below(256))))
		}
		names += kept(t, broken, form, list, touched)
		all += len(list)
	}
	return names, all
}

func TestP1708Drawn(t *testing.T) {
	t.Parallel()
	d := trial.NewDice(1708)
	names, all := 0, 0
	for range 60 {
		p, _ := trial.Built(t, d, trial.One(d, small, wide, api.Super{Sectors: 300, Log: 40, Nodes: 100}))
		n, of := sweep(t, d, imaged(p), p.Form, 12)
		names, all = names+n, all+of
	}
	planter := site.Planter{Dice: d}
	for range 30 {
		form := trial.One(d, api.Super{Sectors: 64, Log: 18, Nodes: 16}, api.Super{Sectors: 400, Log: 50, Nodes: 60})
		disk := site.Made(t, form)
		f := site.Mounted(t, disk)
		for range 120 {
			f.Do(planter.Op())
		}
		is(t, "Checkpoint", f.Checkpoint(), api.OK)
		n, of := sweep(t, d, disk.Image(), form, 12)
		names, all = names+n, all+of
	}
	if names < 3000 || all-names < 3000 {
		t.Errorf("the draw is thin: of %d names %d were not touched", all, names)
	}
}

// Every home sector by itself, overwritten by every byte.
func TestP1708Every(t *testing.T) {
	t.Parallel()
	image := made(t, small, site.Mkdir("/lost"), site.Create("/lost/n5"), site.Mkdir("/d"), site.Create("/d/f"), site.Write("/d/f", 0, strings.Repeat("bytes", 300)), site.Link("/d/f", "/lost/g"), site.Symlink("/d/l", "f"), site.Write("/d/f", 6000, "more"), site.Write("/lost/n5", 80000, "far"))
	list := needs(t, image, small)
	if len(list) != 6 {
		t.Fatalf("%d names", len(list))
	}
	for b := range 43 {
		for x := range 256 {
			broken := bytes.Clone(image)
			fill(broken, 21+b, byte(x))
			kept(t, broken, small, list, map[int]bool{b: true})
		}
	}
}
