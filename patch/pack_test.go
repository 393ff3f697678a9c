package patch_test

import (
	"bytes"
	"fmt"
	"math"
	"slices"
	"strings"
	"testing"

	"vellum/api"
	"vellum/patch"
)

// The bytes of the chapter's examples 1 and 2.
func TestP1801Examples(t *testing.T) {
	empty, one := 3463975160, 3470226446
	head := []byte{118, 108, 112, 97, 116, 99, 104, 1}
	for i, c := range []struct {
		p    api.Patch
		want [][]byte
	}{
		{api.Patch{Base: empty, Goal: empty}, [][]byte{head, {248, 16, 120, 206, 248, 16, 120, 206, 0, 0, 0, 0, 0, 48, 110, 255, 113}}},
		{api.Patch{Base: empty, Goal: one, Changes: []api.Change{put(dirItem("/d"))}}, [][]byte{head, {248, 16, 120, 206, 14, 116, 215, 206, 2, 2, 2, 0, 47, 100, 0, 1, 0, 0, 0, 24, 215, 104, 152}}},
		{api.Patch{Base: one, Goal: empty, Changes: []api.Change{drop("/d")}}, [][]byte{head, {14, 116, 215, 206, 248, 16, 120, 206, 1, 2, 0, 47, 100, 0, 1, 0, 0, 0, 0x0C, 0x76, 0x68, 0x92}}},
	} {
		want := bytes.Join(c.want, nil)
		if b, e := patch.Pack(c.p); e != api.OK || !bytes.Equal(b, want) {
			t.Errorf("P1801: row %d: %v, %v", i, b, e)
		}
		lists(t, fmt.Sprint("row ", i), want, c.p)
	}
}

// deepest is a path of so many bytes.
func deepest(bytes int) string {
	path := ""
	for len(path) < bytes {
		path += "/" + strings.Repeat("n", min(54, bytes-len(path)-1))
	}
	return path
}

// rightOnes are patches that are right, up to the edges of every rule.
func rightOnes() []api.Patch {
	list := []api.Patch{
		{}, {Base: 1<<32 - 1}, {Goal: 1<<32 - 1}, of(), of([]api.Change{}...),
		of(drop("/a"), drop("/b")), of(drop("/a"), drop("/a/z"), drop("/a\x01"), drop("/a!"), drop("/ab")), of(drop("/a/z"), drop("/a.b")), of(drop("/A"), drop("/a"), drop("/\x7f"), drop("/\x80"), drop("/\xff")), of(drop(deepest(1023))), of(drop("/" + strings.Repeat("x", 54))), of(drop("/...")), of(drop("/a/b/c/d/e")),
		of(put(dirItem("/a/b"))), of(put(dirItem(deepest(1023)))), of(drop("/a"), put(dirItem("/a/b")), put(linkItem("/c", "x"))),
		of(put(linkItem("/l", "x"))), of(put(linkItem("/l", strings.Repeat("\x01", 255)))), of(put(linkItem("/l", "//.."))),
		of(put(nameItem("/b", "/a"))), of(put(nameItem("/a/b", "/a"))), of(put(nameItem("/a.b", "/a/z"))), of(put(nameItem("/b/b", "/a/a/a/a"))), of(put(nameItem("/z", deepest(1023)))), of(put(nameItem("/b", "/a\xff"))), of(drop("/a"), put(nameItem("/b", "/a"))), of(put(dirItem("/a")), put(nameItem("/b", "/a"))),
		of(put(fileItem("/f", 0, 0))), of(put(fileItem("/f", 1, 512, run(0, 1)))), of(put(fileItem("/f", 513, 512, run(0, 1)))), of(put(fileItem("/f", 513, 1024, run(0, 2)))), of(put(fileItem("/f", api.MaxFile, 512, run(16521, 16522)))), of(put(fileItem("/f", 3000, 2560, run(0, 1), run(2, 6)))),
		of(edit(0, nil)), of(edit(1, nil)), of(edit(api.MaxFile, nil)), of(edit(1, rows(run(0, 1)))), of(edit(1, rows(run(0, 1)), run(0, 1))), of(edit(511, rows(run(0, 1)), run(0, 1))), of(edit(512, rows(run(0, 1)), run(0, 1))), of(edit(513, rows(run(0, 1)), run(0, 1))), of(edit(513, rows(run(0, 2)), run(0, 2))), of(edit(513, rows(run(0, 2)), run(1, 2))), of(edit(513, rows(run(0, 2)), run(0, 1))),
		of(edit(api.MaxFile, rows(run(0, 1), run(16521, 16522)), run(16521, 16522))), of(edit(api.MaxFile-511, rows(run(16520, 16522)), run(16521, 16522))), of(edit(api.MaxFile, rows(run(0, 16522)))), of(edit(api.MaxFile, rows(run(0, 16522)), run(0, 3), run(4, 5), run(16500, 16522))),
		of(edit(9000, rows(run(0, 5), run(6, 9), run(12, 13)), run(0, 1), run(2, 3), run(4, 5), run(6, 9))), of(edit(9000, rows(run(0, 5), run(6, 9), run(12, 13)), run(8, 9), run(12, 13))), of(edit(9000, rows(run(0, 5), run(6, 9), run(12, 13)), run(7, 8))),
		of(drop("/a"), put(dirItem("/b")), put(fileItem("/c", 9, 512, run(0, 1))), edit(700, rows(run(0, 2)), run(0, 1)), put(nameItem("/g", "/f")), put(linkItem("/h", "t")), drop("/i")),
	}
	empty := edit(5, rows())
	empty.Item.Runs, empty.Item.Data, empty.Set = []api.Run{}, []byte{}, []api.Run{}
	return append(list, of(empty))
}

func TestP1801Right(t *testing.T) {
	for i, p := range rightOnes() {
		if rule := packs(t, fmt.Sprint("row ", i), p); rule != 0 {
			t.Errorf("row %d breaks rule %d", i, rule)
		}
		lists(t, fmt.Sprint("row ", i), bytesOf(p), p)
	}
}

// with is a change whose item or rows were changed.
func with(c api.Change, how func(c *api.Change)) api.Change {
	how(&c)
	return c
}

// wrongOnes are changes that break a rule, by its number.
func wrongOnes() map[int][][]api.Change {
	list := map[int][][]api.Change{
		3: {{drop("/b"), drop("/a")}, {drop("/a"), drop("/a")}, {drop("/a.b"), drop("/a/z")}, {drop("/a/z"), drop("/a")}, {drop("/a!"), drop("/a\x01")}, {drop("/\xff"), drop("/\x80")}, {drop("/b"), put(dirItem("/a"))}, {put(dirItem("/g")), edit(1, nil)}, {put(dirItem("/a")), drop("/a")}, {drop("/a"), drop("/c"), drop("/b")}, {drop(deepest(1024))}, {put(dirItem(deepest(1024)))}, {put(nameItem("/z", "/a")), put(nameItem("/y", "/a"))}},
		5: {
			{put(nameItem("/a", "/b"))}, {put(nameItem("/a", "/a"))}, {put(nameItem("/a", "/a/b"))}, {put(nameItem("/a/z", "/a.b"))}, {put(nameItem("/b", ""))}, {put(nameItem("/b", "/"))}, {put(nameItem("/b", "a"))}, {put(nameItem("/b", "/a/"))}, {put(nameItem("/b", "//a"))}, {put(nameItem("/b", "/a/./x"))}, {put(nameItem("/b", "/a/../x"))}, {put(nameItem("/b", "/a\x00"))}, {put(nameItem("/b", "/"+strings.Repeat("a", 55)))}, {put(nameItem("/z", deepest(1024)))},
			{put(linkItem("/b", ""))}, {put(linkItem("/b", strings.Repeat("x", 256)))}, {put(linkItem("/b", "x\x00"))},
			{put(api.Item{Path: "/b"})}, {put(api.Item{Kind: 5, Path: "/b"})}, {put(api.Item{Kind: -1, Path: "/b"})}, {put(api.Item{Kind: 257, Path: "/b"})},
			{put(fileItem("/b", 512, 1024, run(0, 2)))}, {put(fileItem("/b", -1, 0))}, {put(fileItem("/b", api.MaxFile+1, 0))}, {put(fileItem("/b", 2000, 1024, run(0, 1), run(1, 2)))}, {put(fileItem("/b", 2000, 512, run(0, 2)))}, {put(fileItem("/b", 2000, 0, run(1, 1)))}, {put(fileItem("/b", 2000, 512, run(-1, 0)))}, {put(with(put(fileItem("/b", 1, 0)), func(c *api.Change) { c.Item.Target = "x" }).Item)}, {put(with(put(fileItem("/b", 513, 1024, run(0, 2))), func(c *api.Change) { c.Item.Data[1023] = 1 }).Item)},
		},
		6: {
			{edit(-1, nil)}, {edit(api.MaxFile+1, nil)}, {edit(math.MaxInt, nil)}, {edit(math.MinInt, nil)}, {edit(1<<32, nil)},
			{edit(512, rows(run(0, 2)))}, {edit(0, rows(run(0, 1)))}, {edit(5000, rows(run(0, 2), run(2, 3)))}, {edit(5000, rows(run(2, 3), run(0, 1)))}, {edit(5000, rows(run(1, 1)))}, {edit(5000, rows(run(2, 1)))}, {edit(5000, rows(run(-1, 1)))}, {edit(5000, rows(run(0, 1), run(4, 4)))}, {edit(api.MaxFile, rows(run(16522, 16523)))}, {edit(5000, rows(run(0, math.MaxInt)))}, {edit(5000, rows(run(math.MinInt, 1)))},
			{edit(513, nil, run(0, 1))}, {edit(513, rows(run(0, 2)), run(1, 3))}, {edit(5000, rows(run(0, 2), run(3, 5)), run(1, 4))}, {edit(5000, rows(run(0, 2), run(3, 5)), run(2, 3))}, {edit(5000, rows(run(1, 2), run(3, 5)), run(0, 1))}, {edit(5000, rows(run(1, 2), run(3, 5)), run(0, 2))}, {edit(5000, rows(run(0, 2), run(3, 5)), run(3, 6))}, {edit(5000, rows(run(0, 2), run(3, 5)), run(5, 6))}, {edit(5000, rows(run(0, 2), run(3, 5)), run(0, 5))}, {edit(5000, rows(run(0, 2)), run(0, 1), run(4, 5))},
			{edit(5000, rows(run(0, 5)), run(0, 1), run(1, 2))}, {edit(5000, rows(run(0, 5)), run(0, 2), run(1, 3))}, {edit(5000, rows(run(0, 5)), run(3, 4), run(0, 1))}, {edit(5000, rows(run(0, 5)), run(0, 1), run(0, 1))}, {edit(5000, rows(run(0, 5), run(6, 8)), run(6, 7), run(0, 1))},
		},
		7: {{{Kind: 0, Item: api.Item{Path: "/a"}}}, {{Kind: 4, Item: api.Item{Path: "/a"}}}, {{Kind: -1, Item: api.Item{Path: "/a"}}}, {{Kind: 257, Item: api.Item{Path: "/a"}}}, {{Kind: 258, Item: dirItem("/a")}}, {{Kind: 259, Item: edit(1, nil).Item}}, {{Kind: math.MinInt + 1, Item: api.Item{Path: "/a"}}}, {drop("/a"), {Kind: 4, Item: api.Item{Path: "/b"}}, drop("/c")}},
	}
	for _, path := range []string{"", "/", "a", "a/", "/a/", "//a", "/a//b", "/.", "/..", "/a/.", "/a/../b", "/\x00", "/a\x00/b", "/" + strings.Repeat("x", 55), "/b/" + strings.Repeat("x", 55)} {
		e := with(edit(600, rows(run(0, 1)), run(0, 1)), func(c *api.Change) { c.Item.Path = path })
		list[3] = append(list[3], []api.Change{drop(path)}, []api.Change{put(dirItem(path))}, []api.Change{e}, []api.Change{put(linkItem(path, "x")), drop("/b")})
	}
	for _, how := range []func(c *api.Change){
		func(c *api.Change) { c.Item.Size = 1 }, func(c *api.Change) { c.Item.Size = -1 }, func(c *api.Change) { c.Item.Runs = rows(run(0, 1)) }, func(c *api.Change) { c.Item.Runs = rows(run(0, 0)) }, func(c *api.Change) { c.Item.Data = []byte{0} },
		func(c *api.Change) { c.Set = rows(run(0, 1)) }, func(c *api.Change) { c.Set = rows(run(0, 0)) }, func(c *api.Change) { c.Set = rows(run(0, 1)); c.Item.Data = blank(0) },
	} {
		list[4] = append(list[4], []api.Change{with(drop("/a"), how)})
		for _, x := range []api.Item{dirItem("/a"), linkItem("/a", "x"), nameItem("/a", "/B")} {
			list[5] = append(list[5], []api.Change{with(put(x), how)})
		}
	}
	for _, kind := range []int{1, 2, 3, 4, -1} {
		list[4] = append(list[4], []api.Change{with(drop("/a"), func(c *api.Change) { c.Item.Kind = kind })})
	}
	for _, kind := range []int{0, 2, 3, 4, 5, 257} {
		list[6] = append(list[6], []api.Change{with(edit(600, rows(run(0, 1)), run(0, 1)), func(c *api.Change) { c.Item.Kind = kind })})
	}
	list[4] = append(list[4], []api.Change{with(drop("/a"), func(c *api.Change) { c.Item.Target = "x" })})
	list[5] = append(list[5], []api.Change{with(put(dirItem("/a")), func(c *api.Change) { c.Item.Target = "x" })})
	list[5] = append(list[5], []api.Change{with(put(fileItem("/a", 600, 512, run(0, 1))), func(c *api.Change) { c.Set = rows(run(0, 1)) })})
	list[6] = append(list[6], []api.Change{with(edit(1, nil), func(c *api.Change) { c.Item.Target = "x" })})
	for _, n := range []int{0, 1, 511, 513, 1023, 1025, 1536} {
		list[6] = append(list[6], []api.Change{with(edit(2000, rows(run(0, 4)), run(0, 1), run(2, 3)), func(c *api.Change) { c.Item.Data = make([]byte, n) })})
	}
	for _, n := range []int{1, 512} {
		list[6] = append(list[6], []api.Change{with(edit(2000, rows(run(0, 4))), func(c *api.Change) { c.Item.Data = make([]byte, n) })})
	}
	for _, at := range []int{513, 700, 1023} {
		list[6] = append(list[6], []api.Change{with(edit(513, rows(run(0, 2)), run(0, 2)), func(c *api.Change) { c.Item.Data[at] = 1 })})
		list[6] = append(list[6], []api.Change{with(edit(1025, rows(run(0, 1), run(2, 3)), run(0, 1), run(2, 3)), func(c *api.Change) { c.Item.Data[at] = 1 })})
	}
	return list
}

// Changes that break a rule, each one, alone and among others.
func TestP1801Wrong(t *testing.T) {
	for rule, rows := range wrongOnes() {
		for i, changes := range rows {
			p := of(changes...)
			what := fmt.Sprintf("row %d of rule %d", i, rule)
			if got := packs(t, what, p); got != rule {
				t.Errorf("%s breaks rule %d", what, got)
			}
			refusesOrOther(t, what, p)
			p.Changes = append(slices.Clone(p.Changes), drop("/zz"))
			packs(t, what, p)
			p.Changes = append([]api.Change{drop("/A")}, p.Changes...)
			packs(t, what, p)
		}
	}
	for _, n := range []int{-1, 1 << 32, 1<<32 + 5, math.MaxInt, math.MinInt} {
		for _, p := range []api.Patch{{Base: n}, {Goal: n}, {Base: n, Goal: n}, {Goal: n, Changes: []api.Change{drop("/a")}}} {
			if rule := packs(t, "a sum that is none", p); rule != 2 {
				t.Errorf("the sum %d breaks rule %d", n, rule)
			}
		}
	}
}

// refusesOrOther asks what List says of the bytes of a patch that is not right: a number too great for its bytes may come out right.
func refusesOrOther(t *testing.T, what string, p api.Patch) {
	t.Helper()
	if b := bytesOf(p); len(b) <= 1<<24 {
		asWords(t, what, b)
	}
}

// dropped are so many changes.
func dropped(n int) []api.Change {
	var changes []api.Change
	for i := range n {
		changes = append(changes, drop(fmt.Sprintf("/%05d", i)))
	}
	return changes
}

// long is a right patch of so many bytes, which are more than the longest file has: two files, and three links that fill up.
func long(n int) api.Patch {
	p := of(put(fileItem("/a", api.MaxFile, api.MaxFile, run(0, 16522))))
	blocks := (n - len(bytesOf(p)) - 150) / 512
	p.Changes = append(p.Changes, put(fileItem("/f", 512*blocks, 512*blocks, run(0, blocks))))
	for left := 3; left > 0; left-- {
		text := (n - len(bytesOf(p)) - 9*left) / left
		p.Changes = append(p.Changes, put(linkItem(fmt.Sprintf("/l%d", 3-left), strings.Repeat("t", text))))
	}
	return p
}

// The order of errors, and the edges of how many and how long.
func TestP1801Order(t *testing.T) {
	t.Parallel()
	asks := func(what string, p api.Patch, want api.Errno) {
		t.Helper()
		b, e := patch.Pack(p)
		if e != want || e != api.OK && len(b) != 0 || e == api.OK && !bytes.Equal(b, bytesOf(p)) {
			t.Errorf("P1801: %s: %d bytes, %v, want %v", what, len(b), e, want)
		}
	}
	asks("8192 changes", of(dropped(8192)...), api.OK)
	asks("8193 changes", of(dropped(8193)...), api.ErrLong)
	asks("8193 changes, and a sum that is none", api.Patch{Base: -1, Changes: dropped(8193)}, api.ErrLong)
	asks("8193 changes of nothing", of(make([]api.Change, 8193)...), api.ErrLong)
	for _, i := range []int{0, 8191, 8192} {
		wrong := dropped(8193)
		wrong[i].Kind = 9
		asks("8193 changes, one wrong", of(wrong...), api.ErrLong)
		if i < 8192 {
			asks("8192 changes, one wrong", of(wrong[:8192]...), api.ErrPatch)
		}
	}
	for _, n := range []int{1<<24 - 1, 1 << 24} {
		asks("just not too long", long(n), api.OK)
		if b := bytesOf(long(n)); len(b) != n {
			t.Fatalf("%d bytes, want %d", len(b), n)
		}
	}
	whole := edit(api.MaxFile, rows(run(0, 16522)), run(0, 16522))
	two := of(put(fileItem("/e", api.MaxFile, api.MaxFile, run(0, 16522))), whole)
	asks("two of the longest files", two, api.ErrLong)
	asks("the longest file", of(whole), api.OK)
	for _, n := range []int{1<<24 + 1, 1<<24 + 8, 1<<24 + 9, 1<<24 + 10, 1<<24 + 5000} {
		p := long(n)
		asks("too long", p, api.ErrLong)
		asks("too long, and a wrong change behind all others", of(append(slices.Clone(p.Changes), drop("/"))...), api.ErrPatch)
		asks("too long, and a wrong sum", api.Patch{Goal: -1, Changes: p.Changes}, api.ErrPatch)
		p.Changes[0].Kind = 1
		asks("too long, and a wrong change ahead of all others", p, api.ErrPatch)
	}
}

// What is handed in is not changed and not kept; what is answered is new memory.
func TestP2Pack(t *testing.T) {
	make1 := func() api.Patch {
		return of(drop("/a"), put(dirItem("/b")), put(fileItem("/c", 9, 512, run(0, 1))), edit(700, rows(run(0, 2)), run(0, 1)), put(nameItem("/g", "/f")))
	}
	p := make1()
	first, _ := patch.Pack(p)
	want := bytes.Clone(first)
	for i := range first {
		first[i] ^= 0xFF
	}
	_ = append(first, "behind"...)
	if !samePatch(p, make1()) {
		t.Error("P2: Pack has changed what it was handed, or answered its memory")
	}
	if again, e := patch.Pack(p); e != api.OK || !bytes.Equal(again, want) {
		t.Errorf("P3: Pack answers otherwise the second time: %v", e)
	}
}

// Numbers that no file has: nothing panics, nothing is waited for.
func TestP1Numbers(t *testing.T) {
	odd := []int{math.MinInt, math.MinInt + 1, -513, -1, 0, 1, 2, 511, 512, 513, 16521, 16522, 16523, api.MaxFile, api.MaxFile + 1, 1 << 32, 1 << 54, 1 << 55, math.MaxInt - 511, math.MaxInt}
	for _, size := range []int{math.MinInt, -1, 0, 1, 513, api.MaxFile, api.MaxFile + 1, math.MaxInt} {
		for _, from := range odd {
			for _, to := range odd {
				for _, data := range []int{0, 512} {
					for _, c := range []api.Change{
						{Kind: api.CEdit, Item: api.Item{Runs: rows(run(from, to))}},
						{Kind: api.CEdit, Item: api.Item{Runs: rows(run(from, to))}, Set: rows(run(from, to))},
						{Kind: api.CEdit, Item: api.Item{Runs: rows(run(0, 2))}, Set: rows(run(from, to))},
						{Kind: api.CEdit, Item: api.Item{Runs: rows(run(0, 16522))}, Set: rows(run(0, 1), run(from, to))},
						{Kind: api.CPut, Item: api.Item{Runs: rows(run(from, to))}},
					} {
						c.Item.Kind, c.Item.Path, c.Item.Size, c.Item.Data = api.KFile, "/f", size, make([]byte, data)
						packs(t, "odd numbers", of(c))
					}
				}
			}
		}
	}
}

// Drawn patches, right ones and such to which one thing or several were done, are packed or refused as the chapter's words say.
func TestP1801Drawn(t *testing.T) {
	t.Parallel()
	d := newGardener(1801)
	rules := map[int]int{}
	for range 12000 {
		p := d.patch()
		for range d.Below(4) {
			d.spoil(&p)
		}
		rule := packs(t, "a drawn one", p)
		rules[rule]++
		if rule == 0 {
			lists(t, "a drawn one", bytesOf(p), p)
		}
	}
	for _, rule := range []int{0, 2, 3, 4, 5, 6, 7} {
		if rules[rule] < 100 {
			t.Errorf("the draw is thin: rule %d was broken %d times", rule, rules[rule])
		}
	}
}
