package patch_test

import (
	"bytes"
	"encoding/binary"
	"slices"
	"strings"

	"vellum/api"
	"vellum/dump"
	"vellum/site"
)

// The chapter's words, one by one.

// broken is the first of the seven rules that a patch breaks; 0, if it is right.
func broken(p api.Patch) int {
	if len(p.Changes) > 8192 {
		return 1
	}
	if min(p.Base, p.Goal) < 0 || max(p.Base, p.Goal) > 4294967295 {
		return 2
	}
	for i, holds := range []func(at int, c api.Change) bool{
		func(at int, c api.Change) bool {
			return written(c.Item.Path) && (at == 0 || site.Order(p.Changes[at-1].Item.Path, c.Item.Path) < 0)
		},
		func(at int, c api.Change) bool { return c.Kind != 1 || dropFits(c) },
		func(at int, c api.Change) bool { return c.Kind != 2 || putFits(c) },
		func(at int, c api.Change) bool { return c.Kind != 3 || editFits(c) },
		func(at int, c api.Change) bool { return c.Kind >= 1 && c.Kind <= 3 },
	} {
		for at, c := range p.Changes {
			if !holds(at, c) {
				return i + 3
			}
		}
	}
	return 0
}

// written says whether rule 2 of items holds of a path.
func written(path string) bool { return site.Broken([]api.Item{site.DirItem(path)}) != 2 }

func dropFits(c api.Change) bool {
	x := c.Item
	return x.Kind == 0 && x.Size == 0 && x.Target == "" && len(x.Runs) == 0 && len(x.Data) == 0 && len(c.Set) == 0
}

func putFits(c api.Change) bool {
	if len(c.Set) > 0 {
		return false
	}
	alone := c.Item
	alone.Path = "/x"
	if alone.Kind != 4 {
		return site.Broken([]api.Item{alone}) == 0
	}
	return alone.Size == 0 && len(alone.Runs) == 0 && len(alone.Data) == 0 && written(alone.Target) && site.Order(alone.Target, c.Item.Path) < 0
}

func editFits(c api.Change) bool {
	x := c.Item
	if x.Kind != 1 || x.Target != "" || x.Size < 0 || x.Size > 8459264 || !apart(x.Runs) || !apart(c.Set) {
		return false
	}
	has := map[int]int{}
	for _, run := range x.Runs {
		if run.To > (x.Size+511)/512 {
			return false
		}
		for i := run.From; i < run.To; i++ {
			has[i] = 1
		}
	}
	left := x.Data
	for _, row := range c.Set {
		if row.To > 16522 {
			return false
		}
		for i := row.From; i < row.To; i++ {
			if has[i] == 0 || len(left) < 512 {
				return false
			}
			for k, b := range left[:512] {
				if 512*i+k >= x.Size && b != 0 {
					return false
				}
			}
			left = left[512:]
		}
	}
	return len(left) == 0
}

// apart says whether rows rise apart.
func apart(rows []api.Run) bool {
	for i, row := range rows {
		if i == 0 && row.From < 0 || i > 0 && row.From <= rows[i-1].To || row.To <= row.From {
			return false
		}
	}
	return true
}

var low = binary.LittleEndian

// itemBytes are an item's as in an archive of it alone.
func itemBytes(x api.Item) []byte {
	b := low.AppendUint16([]byte{byte(x.Kind)}, uint16(len(x.Path)))
	b = append(b, x.Path...)
	switch x.Kind {
	case 1:
		return append(rowBytes(low.AppendUint64(b, uint64(x.Size)), x.Runs), x.Data...)
	case 3, 4:
		return append(low.AppendUint16(b, uint16(len(x.Target))), x.Target...)
	}
	return b
}

func rowBytes(b []byte, rows []api.Run) []byte {
	b = low.AppendUint32(b, uint32(len(rows)))
	for _, row := range rows {
		b = low.AppendUint32(low.AppendUint32(b, uint32(row.From)), uint32(row.To))
	}
	return b
}

// bytesOf are the bytes of a patch by the chapter's table, right or not.
func bytesOf(p api.Patch) []byte {
	b := low.AppendUint32(low.AppendUint32([]byte("vlpatch\x01"), uint32(p.Base)), uint32(p.Goal))
	for _, c := range p.Changes {
		b = append(b, byte(c.Kind))
		switch x := c.Item; c.Kind {
		case 1:
			b = append(low.AppendUint16(b, uint16(len(x.Path))), x.Path...)
		case 2:
			b = append(b, itemBytes(x)...)
		case 3:
			b = append(low.AppendUint16(b, uint16(len(x.Path))), x.Path...)
			b = rowBytes(rowBytes(low.AppendUint64(b, uint64(x.Size)), x.Runs), c.Set)
			b = append(b, x.Data...)
		}
	}
	b = low.AppendUint32(append(b, 0), uint32(len(p.Changes)))
	return site.Resummed(append(b, 0, 0, 0, 0))
}

// patchOf is what bytes say as a patch; false: they are none.
func patchOf(b []byte) (api.Patch, bool) {
	if len(b) < 25 || string(b[:8]) != "vlpatch\x01" || !bytes.Equal(site.Resummed(b), b) {
		return api.Patch{}, false
	}
	c := &site.Cursor{Left: b[8 : len(b)-4]}
	p := api.Patch{Base: int(c.Number(4)), Goal: int(c.Number(4))}
	for !c.Bad {
		kind := c.Number(1)
		if kind == 0 {
			break
		}
		change := api.Change{Kind: int(kind)}
		x := &change.Item
		switch kind {
		case 1:
			x.Path = string(c.Next(c.Number(2)))
		case 2:
			x.Kind, x.Path = int(c.Number(1)), string(c.Next(c.Number(2)))
			switch x.Kind {
			case 1:
				x.Size, x.Runs = sizeOf(c), rowsOf(c)
				x.Data = dataOf(c, x.Runs)
			case 3, 4:
				x.Target = string(c.Next(c.Number(2)))
			}
		case 3:
			x.Kind, x.Path = 1, string(c.Next(c.Number(2)))
			x.Size, x.Runs, change.Set = sizeOf(c), rowsOf(c), rowsOf(c)
			x.Data = dataOf(c, change.Set)
		default:
			return api.Patch{}, false
		}
		p.Changes = append(p.Changes, change)
	}
	count := c.Number(4)
	if c.Bad || len(c.Left) > 0 || count != uint64(len(p.Changes)) || broken(p) != 0 {
		return api.Patch{}, false
	}
	return p, true
}

func sizeOf(c *site.Cursor) int {
	size := c.Number(8)
	c.Bad = c.Bad || size > 8459264
	return int(size)
}

func rowsOf(c *site.Cursor) []api.Run {
	var rows []api.Run
	for range c.Number(4) {
		from, to := c.Number(4), c.Number(4)
		if c.Bad || to > 16522 {
			c.Bad = true
			break
		}
		rows = append(rows, site.Run(int(from), int(to)))
	}
	return rows
}

func dataOf(c *site.Cursor, rows []api.Run) []byte {
	if c.Bad || !apart(rows) {
		c.Bad = true
		return nil
	}
	blocks := 0
	for _, row := range rows {
		blocks += row.To - row.From
	}
	return c.Next(uint64(512 * blocks))
}

// states are the items of a list by their paths.
func states(items []api.Item) map[string]api.Item {
	all := map[string]api.Item{}
	for _, x := range items {
		all[x.Path] = x
	}
	return all
}

// paths are those of lists, in their order, each once.
func paths(lists ...[]api.Item) []string {
	var all []string
	for _, items := range lists {
		for _, x := range items {
			all = append(all, x.Path)
		}
	}
	slices.SortFunc(all, site.Order)
	return slices.Compact(all)
}

// sameState says whether two items are the same, but for their paths; one without a path is none.
func sameState(a, b api.Item) bool {
	if a.Path == "" || b.Path == "" {
		return a.Path == b.Path
	}
	return site.Same([]api.Item{a}, []api.Item{b})
}

// blocksOf are the blocks of rows, by their indexes.
func blocksOf(rows []api.Run, data []byte) map[int][]byte {
	all := map[int][]byte{}
	for _, row := range rows {
		for i := row.From; i < row.To; i++ {
			all[i] = data[:512]
			data = data[512:]
		}
	}
	return all
}

// rowsOver are the indexes below a bound that are wanted, in as few rows as can be.
func rowsOver(bound int, wanted func(i int) bool) []api.Run {
	var rows []api.Run
	for i := range bound {
		switch {
		case !wanted(i):
		case i > 0 && wanted(i-1):
			rows[len(rows)-1].To++
		default:
			rows = append(rows, site.Run(i, i+1))
		}
	}
	return rows
}

// bound is an index behind all those of the items' rows.
func bound(items ...api.Item) int {
	n := 0
	for _, x := range items {
		for _, run := range x.Runs {
			n = max(n, run.To)
		}
	}
	return n
}

// sumOf is the sum of a tree.
func sumOf(items []api.Item) int {
	archive, _ := dump.Pack(items)
	return int(low.Uint32(archive[len(archive)-4:]))
}

// diffOf is what P1803 says of two trees.
func diffOf(old, goal []api.Item) api.Patch {
	p := api.Patch{Base: sumOf(old), Goal: sumOf(goal)}
	was, is := states(old), states(goal)
	for _, path := range paths(old, goal) {
		o, g := was[path], is[path]
		switch {
		case sameState(o, g):
		case g.Path == "":
			p.Changes = append(p.Changes, api.Change{Kind: api.CDrop, Item: api.Item{Path: path}})
		case o.Kind == api.KFile && g.Kind == api.KFile:
			p.Changes = append(p.Changes, editOf(o, g))
		default:
			p.Changes = append(p.Changes, api.Change{Kind: api.CPut, Item: g})
		}
	}
	return p
}

func editOf(o, g api.Item) api.Change {
	had, has := blocksOf(o.Runs, o.Data), blocksOf(g.Runs, g.Data)
	set := rowsOver(bound(g), func(i int) bool {
		return has[i] != nil && (had[i] == nil || string(had[i]) != string(has[i]))
	})
	c := api.Change{Kind: api.CEdit, Item: api.Item{Kind: api.KFile, Path: g.Path, Size: g.Size, Runs: g.Runs}, Set: set}
	for _, row := range set {
		for i := row.From; i < row.To; i++ {
			c.Item.Data = append(c.Item.Data, has[i]...)
		}
	}
	return c
}

// outcomeOf is what P1804 says that changes make of a tree; false: there is no outcome.
func outcomeOf(old []api.Item, changes []api.Change) ([]api.Item, bool) {
	all := states(old)
	for _, c := range changes {
		path := c.Item.Path
		was, there := all[path]
		switch c.Kind {
		case api.CPut:
			all[path] = c.Item
		case api.CDrop:
			if !there {
				return nil, false
			}
			delete(all, path)
		case api.CEdit:
			if was.Kind != api.KFile {
				return nil, false
			}
			x := api.Item{Kind: api.KFile, Path: path, Size: c.Item.Size, Runs: c.Item.Runs}
			had, set := blocksOf(was.Runs, was.Data), blocksOf(c.Set, c.Item.Data)
			for _, run := range x.Runs {
				for i := run.From; i < run.To; i++ {
					switch {
					case set[i] != nil:
						x.Data = append(x.Data, set[i]...)
					case had[i] != nil:
						x.Data = append(x.Data, had[i]...)
					default:
						return nil, false
					}
				}
			}
			all[path] = x
		}
	}
	var items []api.Item
	for _, x := range all {
		items = append(items, x)
	}
	slices.SortFunc(items, func(a, b api.Item) int { return site.Order(a.Path, b.Path) })
	return items, true
}

// applyOf is what P1804 says.
func applyOf(old []api.Item, patch []byte) ([]api.Item, api.Errno) {
	if _, e := dump.Pack(old); e != api.OK {
		return nil, e
	}
	if len(patch) > 1<<24 {
		return nil, api.ErrLong
	}
	p, is := patchOf(patch)
	if !is {
		return nil, api.ErrPatch
	}
	if p.Base != sumOf(old) {
		return nil, api.ErrBase
	}
	items, can := outcomeOf(old, p.Changes)
	if !can {
		return nil, api.ErrPatch
	}
	if _, e := dump.Pack(items); e != api.OK || !bytes.Equal(bytesOf(diffOf(old, items)), patch) {
		return nil, api.ErrPatch
	}
	return items, api.OK
}

// mergeOf is what P1806 says of three trees.
func mergeOf(base, left, right []api.Item) ([]api.Item, []api.Conflict, api.Errno) {
	bs, ls, rs, answer := states(base), states(left), states(right), map[string]api.Item{}
	var items []api.Item
	var conflicts []api.Conflict
	for _, path := range paths(base, left, right) {
		b, l, r := bs[path], ls[path], rs[path]
		pick := l
		switch {
		case sameState(l, r):
		case sameState(l, b):
			pick = r
		case sameState(r, b):
		default:
			conflicts = append(conflicts, api.Conflict{Kind: api.XBoth, Path: path})
		}
		above := path[:strings.LastIndex(path, "/")]
		switch {
		case pick.Path == "":
		case above != "" && answer[above].Kind != api.KDir:
			conflicts = append(conflicts, api.Conflict{Kind: api.XLoose, Path: path})
		case pick.Kind == api.KName && answer[pick.Target].Kind != api.KFile:
			conflicts = append(conflicts, api.Conflict{Kind: api.XName, Path: path})
		default:
			answer[path] = pick
			items = append(items, pick)
		}
	}
	if _, e := dump.Pack(items); e == api.ErrLong {
		return nil, nil, e
	}
	return items, conflicts, api.OK
}

// operationsOf are those that P1807 names.
func operationsOf(old []api.Item, changes []api.Change) []api.Op {
	was := states(old)
	var gone, cut, come []api.Op
	for _, c := range changes {
		x, o := c.Item, was[c.Item.Path]
		if c.Kind != api.CEdit {
			switch o.Kind {
			case api.KNone:
			case api.KDir:
				gone = append(gone, site.Rmdir(o.Path))
			default:
				gone = append(gone, site.Unlink(o.Path))
			}
		}
		switch c.Kind {
		case api.CEdit:
			if x.Size != o.Size {
				cut = append(cut, site.Truncate(x.Path, x.Size))
			}
			had, has := blocksOf(o.Runs, o.Data), map[int]int{}
			for _, run := range x.Runs {
				for i := run.From; i < run.To; i++ {
					has[i] = 1
				}
			}
			for _, row := range rowsOver(bound(o), func(i int) bool { return had[i] != nil && 512*i < x.Size && has[i] == 0 }) {
				cut = append(cut, site.Punch(x.Path, 512*row.From, 512*(row.To-row.From)))
			}
			come = append(come, writesOf(x.Path, x.Size, c.Set, x.Data)...)
		case api.CPut:
			come = append(come, putsOf(x)...)
		}
	}
	slices.Reverse(gone)
	return slices.Concat(gone, cut, come)
}

func putsOf(x api.Item) []api.Op {
	switch x.Kind {
	case api.KDir:
		return []api.Op{site.Mkdir(x.Path)}
	case api.KLink:
		return []api.Op{site.Symlink(x.Path, x.Target)}
	case api.KName:
		return []api.Op{site.Link(x.Target, x.Path)}
	}
	ops := []api.Op{site.Create(x.Path)}
	if x.Size > 0 {
		ops = append(ops, site.Truncate(x.Path, x.Size))
	}
	return append(ops, writesOf(x.Path, x.Size, x.Runs, x.Data)...)
}

// writesOf writes the bytes of rows as far as they lie ahead of the size, in pieces of 65536.
func writesOf(path string, size int, rows []api.Run, data []byte) []api.Op {
	var ops []api.Op
	for _, row := range rows {
		end := min(512*row.To, size)
		for off := 512 * row.From; off < end; off += 65536 {
			from := off - 512*row.From
			ops = append(ops, site.Write(path, off, string(data[from:from+min(65536, end-off)])))
		}
		data = data[512*(row.To-row.From):]
	}
	return ops
}
