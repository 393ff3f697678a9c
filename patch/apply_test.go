package patch_test

import (
	"bytes"
	"fmt"
	"slices"
	"testing"

	"vellum/api"
	"vellum/patch"
	"vellum/site"
	"vellum/trial"
)

// undone asks that Apply and Back refuse a patch.
func undone(t *testing.T, what string, old []api.Item, b []byte, want api.Errno) {
	t.Helper()
	applies(t, what, old, b, nil, want)
	if back, e := patch.Back(old, b); e != want || len(back) != 0 {
		t.Fatalf("P1805: %s: Back: %d bytes, %v, want %v", what, len(back), e, want)
	}
}

// does asks of Apply and Back what the words say of a patch; it tells what Apply answered.
func does(t *testing.T, what string, old []api.Item, b []byte) api.Errno {
	t.Helper()
	want, e := applyOf(old, b)
	if e != api.OK {
		undone(t, what, old, b, e)
		return e
	}
	applies(t, what, old, b, want, api.OK)
	if again, e := patch.Diff(old, want); e != api.OK || !bytes.Equal(again, b) {
		t.Fatalf("P1808: %s: Diff of what Apply answers: %d bytes, %v, want %d", what, len(again), e, len(b))
	}
	back, e := patch.Back(old, b)
	if e != api.OK || !bytes.Equal(back, bytesOf(diffOf(want, old))) {
		t.Fatalf("P1805: %s: Back: %d bytes, %v", what, len(back), e)
	}
	applies(t, what, want, back, old, api.OK)
	if !bytes.Equal(back, b) {
		undone(t, what, want, b, baseOr(old, want, b))
	}
	return api.OK
}

// baseOr is how a patch is refused on the tree that it has made, or one of the same sum.
func baseOr(old, want []api.Item, b []byte) api.Errno {
	if sumOf(old) != sumOf(want) {
		return api.ErrBase
	}
	_, e := applyOf(want, b)
	return e
}

// The errors come in their order: the tree's, the patch's, that of the base, and what does not fit.
func TestP1804Errors(t *testing.T) {
	three := site.Three()
	fits, _ := patch.Diff(three, nil)
	tooLong := make([]byte, 1<<24+1)
	for what, x := range wrongTrees() {
		for _, b := range [][]byte{fits, nil, tooLong, bytesOf(of())} {
			undone(t, what, x.items, b, x.e)
		}
	}
	undone(t, "too long", three, tooLong, api.ErrLong)
	undone(t, "nothing", three, nil, api.ErrPatch)
	undone(t, "a piece", three, fits[1:], api.ErrPatch)
	undone(t, "a wrong sum at the end", three, append(fits[:len(fits)-1:len(fits)-1], fits[len(fits)-1]+1), api.ErrPatch)
	undone(t, "another base", three, bytesOf(api.Patch{Base: sumOf(nil)}), api.ErrBase)
	undone(t, "another base, and nothing fits", three, bytesOf(api.Patch{Base: sumOf(nil), Changes: []api.Change{edit(1, nil), drop("/none")}}), api.ErrBase)
	undone(t, "not right, and another base", three, bytesOf(api.Patch{Changes: []api.Change{drop("/b"), drop("/a")}}), api.ErrPatch)
	undone(t, "example 2", items(dirItem("/d")), bytesOf(diffOf(nil, items(dirItem("/d")))), api.ErrBase)
	undone(t, "on another tree", nil, fits, api.ErrBase)
	for n := range 32 {
		undone(t, "a bit of the base turned", three, bytesOf(api.Patch{Base: sumOf(three) ^ 1<<n, Goal: sumOf(three)}), api.ErrBase)
		undone(t, "a bit of the goal turned", three, bytesOf(api.Patch{Base: sumOf(three), Goal: sumOf(three) ^ 1<<n}), api.ErrPatch)
	}
}

// at is an edit of another path than "/f".
func at(path string, c api.Change) api.Change {
	c.Item.Path = path
	return c
}

// Changes that cannot be done on a tree.
func TestP1804NoOutcome(t *testing.T) {
	old := items(dirItem("/d"), fileItem("/d/g", 5, 512, run(0, 1)), fileItem("/f", 3000, 512*4, run(0, 2), run(3, 5)), linkItem("/l", "f"), nameItem("/n", "/f"))
	for i, list := range [][]api.Change{
		{drop("/x")}, {drop("/d/x")}, {drop("/f/x")}, {drop("/")}, {drop("/d"), drop("/d/f"), drop("/d/g")}, {drop("/a")}, {drop("/z")}, {drop("/f"), drop("/m")},
		{at("/x", edit(1, nil))}, {at("/d/h", edit(1, nil))}, {at("/z", edit(9, rows(run(0, 1)), run(0, 1)))}, {at("/a", edit(9, rows(run(0, 1)), run(0, 1)))},
		{at("/d", edit(1, nil))}, {at("/l", edit(1, nil))}, {at("/n", edit(1, nil))}, {at("/n", edit(3000, rows(run(0, 1)), run(0, 1)))}, {at("/d", edit(9, rows(run(0, 1)), run(0, 1)))},
		{edit(3000, rows(run(0, 3), run(4, 5)))}, {edit(3000, rows(run(2, 3)))}, {edit(3000, rows(run(0, 2), run(3, 6)))}, {edit(9000, rows(run(0, 2), run(3, 5), run(9, 10)))}, {edit(9000, rows(run(0, 12)), run(0, 1))}, {edit(9000, rows(run(5, 6)))}, {edit(9000, rows(run(0, 4), run(6, 8)), run(2, 3), run(6, 7))}, {edit(api.MaxFile, rows(run(0, 16522)))}, {edit(api.MaxFile, rows(run(16521, 16522)))},
	} {
		if _, can := outcomeOf(old, list); can {
			t.Errorf("row %d has an outcome", i)
		}
		p := api.Patch{Base: sumOf(old), Goal: sumOf(old), Changes: list}
		undone(t, fmt.Sprint("row ", i), old, bytesOf(p), api.ErrPatch)
	}
}

// Changes that can be done, but are not those that Diff would make.
func TestP1804NotTheOne(t *testing.T) {
	f := fileItem("/f", 3000, 512*4, run(0, 2), run(3, 5))
	old := items(dirItem("/d"), fileItem("/d/g", 5, 512, run(0, 1)), f, linkItem("/l", "f"), nameItem("/n", "/f"))
	all := rows(run(0, 2), run(3, 5))
	same := with(edit(3000, all, all...), func(c *api.Change) { c.Item.Data = bytes.Clone(f.Data) })
	one := func(set ...api.Run) api.Change {
		c := edit(3000, all, set...)
		c.Item.Data[0]++
		return c
	}
	longer := fileItem("/f", 3001, 512*4, run(0, 2), run(3, 5))
	for i, list := range [][]api.Change{
		{put(dirItem("/d"))}, {put(f)}, {put(linkItem("/l", "f"))}, {put(nameItem("/n", "/f"))}, {edit(3000, all)}, {same}, {at("/d/g", edit(5, rows(run(0, 1))))},
		{one(run(0, 2))}, {one(run(0, 1), run(3, 4))}, {put(longer)}, {edit(3001, all, run(0, 1))}, {put(dirItem("/d")), put(dirItem("/e"))}, {put(dirItem("/e")), edit(3000, all)}, {put(f), drop("/n")},
		{edit(0, nil), put(linkItem("/l", "f"))},
	} {
		outcome, can := outcomeOf(old, list)
		if !can || site.Broken(outcome) != 0 {
			t.Fatalf("row %d has no outcome", i)
		}
		undone(t, fmt.Sprint("row ", i), old, fit(old, list...), api.ErrPatch)
	}
	// These are the ones that Diff makes.
	for i, list := range [][]api.Change{{}, {one(run(0, 1))}, {edit(3001, all)}, {drop("/n")}, {drop("/d"), drop("/d/g")}, {put(dirItem("/e"))}, {edit(0, nil)}, {drop("/f"), drop("/n")}, {put(linkItem("/n", "x"))}} {
		if e := does(t, fmt.Sprint("row ", i), old, fit(old, list...)); e != api.OK {
			t.Errorf("P1804: row %d: %v", i, e)
		}
	}
}

// Outcomes that are no trees.
func TestP1804NoTree(t *testing.T) {
	old := items(dirItem("/d"), fileItem("/d/g", 5, 512, run(0, 1)), nameItem("/d/h", "/d/g"), fileItem("/f", 5, 512, run(0, 1)), linkItem("/l", "f"))
	for i, list := range [][]api.Change{
		{drop("/d")}, {put(fileItem("/d", 0, 0))}, {put(dirItem("/e/x"))}, {put(dirItem("/f/x"))}, {put(dirItem("/l/x"))}, {drop("/d/g")}, {put(dirItem("/d/g"))}, {put(nameItem("/m", "/l"))}, {put(nameItem("/m", "/d"))}, {put(nameItem("/m", "/a"))}, {put(nameItem("/m", "/d/h"))}, {drop("/f"), put(nameItem("/m", "/f"))}, {put(nameItem("/f", "/d/g")), put(nameItem("/m", "/f"))},
	} {
		outcome, can := outcomeOf(old, list)
		if !can || site.Broken(outcome) == 0 {
			t.Fatalf("row %d makes a tree", i)
		}
		undone(t, fmt.Sprint("row ", i), old, fit(old, list...), api.ErrPatch)
	}
}

// Outcomes with an item too many, or too long by a byte.
func TestP1804Great(t *testing.T) {
	t.Parallel()
	many := site.Many(4096)
	undone(t, "4097 items", many, fit(many, put(dirItem("/x"))), api.ErrPatch)
	if e := does(t, "4096 items", many, fit(many, drop("/0007"), put(dirItem("/x")))); e != api.OK {
		t.Errorf("P1804: 4096 items: %v", e)
	}
	var more []api.Change
	for i := range 4097 {
		more = append(more, put(dirItem(fmt.Sprintf("/x%04d", i))))
	}
	undone(t, "4097 new ones", nil, bytesOf(api.Patch{Base: sumOf(nil), Changes: more}), api.ErrPatch)
	undone(t, "8193 items", many, bytesOf(api.Patch{Base: sumOf(many), Changes: more}), api.ErrPatch)
	// A directory takes five bytes: its kind, two for how long its path is, and two for that.
	full := site.Filled(1<<22 - 5)
	if e := does(t, "the longest", full, fit(full, put(dirItem("/x")))); e != api.OK {
		t.Errorf("P1804: the longest: %v", e)
	}
	undone(t, "too long by a byte", full, bytesOf(api.Patch{Base: sumOf(full), Changes: []api.Change{put(dirItem("/xx"))}}), api.ErrPatch)
	whole := fileItem("/x", api.MaxFile, api.MaxFile, run(0, 16522))
	undone(t, "the longest file", nil, bytesOf(api.Patch{Base: sumOf(nil), Changes: []api.Change{put(whole)}}), api.ErrPatch)
}

// Drawn patches that were made for the tree, right ones and such to which something was done, also such that say the sums of what they make.
func TestP1808Forced(t *testing.T) {
	t.Parallel()
	d := newGardener(18081)
	answers := map[api.Errno]int{}
	unfit := 0
	for range 6000 {
		old := d.tree()
		p := diffOf(old, d.other(old, d.Below(6)))
		for range d.Below(3) {
			d.spoil(&p)
		}
		if d.Below(4) > 0 && broken(p) == 0 {
			p.Base = sumOf(old)
			if outcome, can := outcomeOf(old, p.Changes); can && site.Broken(outcome) == 0 {
				p.Goal = sumOf(outcome)
			}
		}
		e := does(t, "a drawn one", old, bytesOf(p))
		answers[e]++
		if broken(p) == 0 && e == api.ErrPatch {
			unfit++
		}
	}
	if answers[api.OK] < 500 || answers[api.ErrPatch] < 500 || answers[api.ErrBase] < 100 || unfit < 300 {
		t.Errorf("the draw is thin: %v, and %d are unfit", answers, unfit)
	}
}

// A row of patches is done and undone, and each is refused on all the other trees of the row.
func TestP1809Rows(t *testing.T) {
	t.Parallel()
	d := newGardener(1809)
	for range 60 {
		trees := [][]api.Item{d.tree()}
		for range 6 {
			trees = append(trees, d.other(trees[len(trees)-1], 1+d.Below(3)))
		}
		var there, back [][]byte
		for i, goal := range trees[1:] {
			b, _ := patch.Diff(trees[i], goal)
			r, e := patch.Back(trees[i], b)
			trial.Is(t, "P1805: Back", e, api.OK)
			there, back = append(there, b), append(back, r)
		}
		now := trees[0]
		for i, b := range there {
			applies(t, "forth", now, b, trees[i+1], api.OK)
			now, _ = patch.Apply(now, b)
		}
		for i, b := range slices.Backward(back) {
			applies(t, "back", now, b, trees[i], api.OK)
			now, _ = patch.Apply(now, b)
		}
		for i, b := range there {
			for _, other := range trees {
				if sumOf(other) != sumOf(trees[i]) {
					undone(t, "another tree", other, b, api.ErrBase)
				}
			}
		}
	}
}

// What is handed in is not changed and not kept; what is answered is new memory, each list by itself.
func TestP2Apply(t *testing.T) {
	make1 := func() []api.Item {
		return items(fileItem("/a", 2000, 1024, run(0, 1), run(2, 3)), fileItem("/f", 3000, 1536, run(0, 3)), linkItem("/l", "x"))
	}
	make2 := func() []api.Item {
		f := fileItem("/f", 4000, 2048, run(0, 2), run(3, 5))
		f.Data[600]++
		return items(fileItem("/a", 2000, 1024, run(0, 1), run(2, 3)), fileItem("/b", 600, 1024, run(0, 2)), f)
	}
	old, b := make1(), bytesOf(diffOf(make1(), make2()))
	was := bytes.Clone(b)
	got, e := patch.Apply(old, b)
	if e != api.OK || !site.Same(old, make1()) || !bytes.Equal(b, was) {
		t.Fatalf("P2: Apply has changed what it was handed, %v", e)
	}
	ruin(old)
	for i := range b {
		b[i] = 0xEE
	}
	if !site.Same(got, make2()) {
		t.Error("P2: what Apply answers hangs on its arguments' memory")
	}
	apartLists(t, got, make2())
	old, b = make1(), was
	got, _ = patch.Apply(old, b)
	ruin(got)
	if !site.Same(old, make1()) {
		t.Error("P2: what Apply answers is its arguments' memory")
	}
	back, _ := patch.Back(old, b)
	want := bytes.Clone(back)
	for i := range back {
		back[i] = 0xEE
	}
	if again, e := patch.Back(old, b); e != api.OK || !bytes.Equal(again, want) || !site.Same(old, make1()) || !bytes.Equal(b, was) {
		t.Error("P2: Back has changed what it was handed, or answers otherwise the second time")
	}
}

// ruin overwrites all lists of items.
func ruin(items []api.Item) {
	for _, x := range items {
		for i := range x.Data {
			x.Data[i] = 0xEE
		}
		for i := range x.Runs {
			x.Runs[i] = run(-7, -7)
		}
	}
}

// apartLists asks that what is done to one list of an answer is seen in no other.
func apartLists(t *testing.T, got, want []api.Item) {
	t.Helper()
	for i, x := range got {
		_ = append(x.Data, 7, 7, 7)
		_ = append(x.Runs, run(7, 7))
		if !site.Same(got, want) {
			t.Errorf("P2: what is appended to item %d is seen in another", i)
		}
	}
	for i := range got {
		ruin(got[i : i+1])
		if !site.Same(got[i+1:], want[i+1:]) {
			t.Errorf("P2: item %d shares its memory with another", i)
		}
	}
}
