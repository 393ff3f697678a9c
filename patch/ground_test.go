package patch_test

import (
	"bytes"
	"fmt"
	"math"
	"slices"
	"strings"
	"testing"

	"vellum/api"
	"vellum/patch"
	"vellum/site"
	"vellum/trial"
)

// These are short for what the tests of the packages over the file system share.
var dirItem, linkItem, nameItem, fileItem, run = site.DirItem, site.LinkItem, site.NameItem, site.FileItem, site.Run

func drop(path string) api.Change {
	return api.Change{Kind: api.CDrop, Item: api.Item{Path: path}}
}
func put(item api.Item) api.Change { return api.Change{Kind: api.CPut, Item: item} }

// edit is of the file "/f", with 512 bytes that are 1 for each index of the set, as far as they lie ahead of the size.
func edit(size int, runs []api.Run, set ...api.Run) api.Change {
	c := api.Change{Kind: api.CEdit, Item: api.Item{Kind: api.KFile, Path: "/f", Size: size, Runs: runs}, Set: set}
	for _, row := range set {
		c.Item.Data = append(c.Item.Data, fileItem("", size, 512*(row.To-row.From), row).Data...)
	}
	return c
}

func rows(list ...api.Run) []api.Run { return list }

// of is a patch with these changes, for whatever trees.
func of(changes ...api.Change) api.Patch {
	return api.Patch{Base: 7, Goal: 1<<32 - 1, Changes: changes}
}

// fit is a patch with these changes that says the right sums for a tree.
func fit(old []api.Item, changes ...api.Change) []byte {
	p := api.Patch{Base: sumOf(old), Changes: changes}
	if items, can := outcomeOf(old, changes); can && site.Broken(items) == 0 {
		p.Goal = sumOf(items)
	}
	return bytesOf(p)
}

// samePatch says whether two patches say the same.
func samePatch(a, b api.Patch) bool {
	return a.Base == b.Base && a.Goal == b.Goal && slices.EqualFunc(a.Changes, b.Changes, func(x, y api.Change) bool {
		return x.Kind == y.Kind && slices.Equal(x.Set, y.Set) && site.Same([]api.Item{x.Item}, []api.Item{y.Item})
	})
}

// brief is of a patch what a page can take.
func brief(p api.Patch) string {
	var text strings.Builder
	fmt.Fprintf(&text, "%d to %d:", p.Base, p.Goal)
	for _, c := range p.Changes {
		fmt.Fprintf(&text, " %d %v %s", c.Kind, c.Set, site.Short([]api.Item{c.Item}))
	}
	return text.String()
}

// content is a file as its blocks by their indexes.
func content(path string, size int, blocks map[int][]byte) api.Item {
	item := api.Item{Kind: api.KFile, Path: path, Size: size}
	end := (size + 511) / 512
	item.Runs = rowsOver(min(end, 400), func(i int) bool { return blocks[i] != nil })
	for _, r := range item.Runs {
		for i := r.From; i < r.To; i++ {
			block := bytes.Clone(blocks[i])
			clear(block[min(512, size-512*i):])
			item.Data = append(item.Data, block...)
		}
	}
	return item
}

// blank is a block of one byte.
func blank(x byte) []byte { return bytes.Repeat([]byte{x}, 512) }

// gardener draws trees, and what becomes of them.
type gardener struct {
	site.Lister
}

func newGardener(seed int) gardener { return gardener{site.Lister{Dice: trial.NewDice(seed)}} }

// tree draws a right list.
func (d gardener) tree() []api.Item {
	for {
		if items := d.Items(); site.Broken(items) == 0 {
			return items
		}
	}
}

// mended is a right list of items: what hangs on nothing is not in it.
func mended(items []api.Item) []api.Item {
	all := states(items)
	var list []api.Item
	kinds := map[string]int{}
	for _, path := range paths(items) {
		x, above := all[path], path[:strings.LastIndex(path, "/")]
		if above != "" && kinds[above] != api.KDir || x.Kind == api.KName && kinds[x.Target] != api.KFile {
			continue
		}
		list = append(list, x)
		kinds[path] = x.Kind
	}
	return list
}

// other is a tree that came of another one by so many drawn things.
func (d gardener) other(items []api.Item, things int) []api.Item {
	items = slices.Clone(items)
	for range things {
		items = mended(d.touched(items))
	}
	return items
}

// touched does one thing to a list; it may be right no more.
func (d gardener) touched(items []api.Item) []api.Item {
	if len(items) == 0 || d.Below(4) == 0 {
		above := ""
		if len(items) > 0 {
			above = trial.One(d.Dice, "", trial.One(d.Dice, items...).Path)
		}
		return append(items, d.item(above+"/"+trial.One(d.Dice, "a", "b", "a.b", "zz", string(rune('a'+d.Below(26)))), items))
	}
	i := d.Below(len(items))
	for range 3 { // files most often
		if items[i].Kind != api.KFile {
			i = d.Below(len(items))
		}
	}
	x := items[i]
	switch n := d.Below(10); {
	case n <= 1:
		return slices.Delete(items, i, i+1)
	case n == 2:
		items[i] = d.item(x.Path, items)
	case x.Kind == api.KFile:
		items[i] = d.edited(x)
	case x.Kind == api.KLink:
		items[i].Target += "."
		items[i].Target = items[i].Target[max(0, len(items[i].Target)-255):]
	}
	return items
}

// item draws one of any kind.
func (d gardener) item(path string, items []api.Item) api.Item {
	switch d.Below(6) {
	case 0:
		return dirItem(path)
	case 1:
		return linkItem(path, trial.One(d.Dice, "x", "/a", ".."))
	case 2, 3:
		var files []string
		for _, x := range items {
			if x.Kind == api.KFile && site.Order(x.Path, path) < 0 {
				files = append(files, x.Path)
			}
		}
		if len(files) > 0 {
			return nameItem(path, trial.One(d.Dice, files...))
		}
	}
	return d.File(path)
}

// edited draws what becomes of a file.
func (d gardener) edited(x api.Item) api.Item {
	blocks := map[int][]byte{}
	for i, b := range blocksOf(x.Runs, x.Data) {
		blocks[i] = b
	}
	size := x.Size
	for range 1 + d.Below(5) {
		i := d.Below(min(size/512+2, 30))
		switch d.Below(7) {
		case 0:
			size = trial.One(d.Dice, 0, max(0, size-1), min(size+1, api.MaxFile), d.Below(9000), 512*d.Below(20), api.MaxFile)
		case 1:
			delete(blocks, i)
		case 2:
			for k := range d.Below(6) {
				delete(blocks, i+k)
			}
		case 3:
			for k := range d.Below(6) {
				blocks[i+k] = blank(byte(d.Below(3)))
			}
		default:
			block := bytes.Clone(blocks[i])
			if block == nil {
				block = blank(0)
			}
			block[trial.One(d.Dice, 0, 511, d.Below(512))]++
			blocks[i] = block
		}
	}
	return content(x.Path, size, blocks)
}

// patch draws a patch: right ones most often.
func (d gardener) patch() api.Patch {
	old := d.tree()
	goal := d.other(old, d.Below(6))
	if d.Below(6) == 0 {
		goal = d.tree()
	}
	p := diffOf(old, goal)
	p.Changes = slices.Clone(p.Changes)
	return p
}

// spoil does one thing to a patch that may break a rule, or make it unfit, or not.
func (d gardener) spoil(p *api.Patch) {
	if len(p.Changes) == 0 || d.Below(12) == 0 {
		p.Goal = trial.One(d.Dice, -1, 0, 1<<32-1, 1<<32, p.Goal+1, math.MaxInt, math.MinInt)
		if d.Below(3) == 0 {
			p.Base, p.Goal = p.Goal, p.Base
		}
		return
	}
	i := d.Below(len(p.Changes))
	c := &p.Changes[i]
	switch d.Below(12) {
	case 0:
		p.Changes = slices.Delete(p.Changes, i, i+1)
	case 1:
		j := d.Below(len(p.Changes))
		p.Changes[i], p.Changes[j] = p.Changes[j], p.Changes[i]
	case 2:
		c.Kind = trial.One(d.Dice, 0, 1, 2, 3, 4, 258, -1)
	case 3, 4:
		d.spoilSet(c)
	case 5:
		*c = drop(c.Item.Path)
	case 6:
		*c = put(d.item(c.Item.Path, []api.Item{fileItem("/a", 0, 0), fileItem("/b", 0, 0)}))
	case 7:
		c.Item.Runs = trial.One(d.Dice, nil, rows(run(0, 1)), rows(run(0, 2), run(3, 4)), append(slices.Clone(c.Item.Runs), run(2, 3)))
	case 8:
		p.Changes = slices.Insert(p.Changes, i, drop(trial.One(d.Dice, c.Item.Path, "/", "/0", c.Item.Path+"/x")))
	default:
		items := d.Spoil([]api.Item{c.Item})
		if len(items) > 0 {
			c.Item = items[len(items)-1]
		}
	}
}

// spoilSet does something to the rows of a change and their bytes.
func (d gardener) spoilSet(c *api.Change) {
	c.Set, c.Item.Data = slices.Clone(c.Set), bytes.Clone(c.Item.Data)
	last := len(c.Set) - 1
	switch n := d.Below(7); {
	case last < 0 || n == 0:
		c.Set = append(c.Set, trial.One(d.Dice, run(0, 1), run(3, 4), run(2, 2), run(-1, 0), run(5, 7)))
		c.Item.Data = append(c.Item.Data, blank(byte(d.Below(2)))...)
	case n == 1:
		c.Item.Data = c.Item.Data[:max(0, len(c.Item.Data)-512*(c.Set[last].To-c.Set[last].From))]
		c.Set = c.Set[:last]
	case n == 2:
		c.Set[last].To++
		c.Item.Data = append(c.Item.Data, blank(0)...)
	case n == 3:
		c.Set[0].From--
		c.Item.Data = append(blank(0), c.Item.Data...)
	case n == 4 && len(c.Item.Data) > 0:
		c.Item.Data[d.Below(len(c.Item.Data))]++
	case n == 5:
		c.Item.Size = max(0, c.Item.Size-d.Below(600))
	default:
		c.Item.Data = c.Item.Data[:d.Below(len(c.Item.Data)+1)]
	}
}

// packs asks what Pack answers, by the chapter's words; it tells the rule that is broken.
func packs(t *testing.T, what string, p api.Patch) int {
	t.Helper()
	rule := broken(p)
	var want []byte
	e := api.OK
	switch {
	case rule == 1:
		e = api.ErrLong
	case rule > 1:
		e = api.ErrPatch
	default:
		if want = bytesOf(p); len(want) > 1<<24 {
			want, e = nil, api.ErrLong
		}
	}
	got, gotE := patch.Pack(p)
	if gotE != e || !bytes.Equal(got, want) {
		t.Fatalf("P1801: Pack of %s: %d bytes, %v, want %d, %v (rule %d): %.1500s", what, len(got), gotE, len(want), e, rule, brief(p))
	}
	return rule
}

// lists asks that List tells what a patch says, and that Pack makes it again.
func lists(t *testing.T, what string, b []byte, want api.Patch) {
	t.Helper()
	p, e := patch.List(b)
	if e != api.OK || !samePatch(p, want) {
		t.Fatalf("P1802: List of %s: %v, %.1500s, want %.1500s", what, e, brief(p), brief(want))
	}
	if again, e := patch.Pack(p); e != api.OK || !bytes.Equal(again, b) {
		t.Fatalf("P1802: Pack of what List tells of %s: %d bytes, %v, want %d", what, len(again), e, len(b))
	}
}

// refuses asks that List takes these bytes for no patch.
func refuses(t *testing.T, what string, b []byte) {
	t.Helper()
	if p, e := patch.List(b); e != api.ErrPatch || !samePatch(p, api.Patch{}) {
		t.Fatalf("P1802: List of %s: %v, %.1500s, want ErrPatch", what, e, brief(p))
	}
}

// asWords asks of List what the chapter's words say of these bytes; it tells whether they are a patch.
func asWords(t *testing.T, what string, b []byte) bool {
	t.Helper()
	p, is := patchOf(b)
	if is {
		lists(t, what, b, p)
	} else {
		refuses(t, what, b)
	}
	return is
}
