package dump_test

import (
	"bytes"
	"fmt"
	"math"
	"slices"
	"strings"
	"testing"

	"vellum/api"
	"vellum/dump"
	"vellum/site"
	"vellum/trial"
)

// These are short for what the tests of the packages over the file system share.
var (
	dirItem, linkItem, nameItem, fileItem, run = site.DirItem, site.LinkItem, site.NameItem, site.FileItem, site.Run

	three, many, filled, broken = site.Three, site.Many, site.Filled, site.Broken
	resummed, edited            = site.Resummed, site.Edited
)

// sample is a right list with items of all kinds.
func sample() []api.Item {
	return []api.Item{
		dirItem("/a"),
		fileItem("/a/f", 1200, 1024, run(0, 1), run(2, 3)),
		dirItem("/a/z"),
		linkItem("/a.b", "x"),
		nameItem("/b", "/a/f"),
		fileItem("/c", 0, 0),
		fileItem("/c2", 3000, 512, run(3, 4)),
	}
}

// packs asks what Pack answers, by the chapter's words; it tells the rule that is broken.
func packs(t *testing.T, what string, items []api.Item) int {
	t.Helper()
	rule := broken(items)
	var want []byte
	e := api.OK
	switch b := bytesOf(items); {
	case rule == 1:
		e = api.ErrLong
	case rule > 1:
		e = api.ErrArchive
	case len(b) > 1<<22:
		e = api.ErrLong
	default:
		want = b
	}
	got, gotE := dump.Pack(items)
	if gotE != e || !bytes.Equal(got, want) {
		t.Fatalf("P1501: Pack of %s: %d bytes, %v, want %d, %v (rule %d)", what, len(got), gotE, len(want), e, rule)
	}
	return rule
}

func TestP1501Examples(t *testing.T) {
	for i, c := range []struct {
		items []api.Item
		want  []byte
	}{
		{nil, []byte{118, 108, 109, 97, 114, 99, 104, 1, 0, 0, 0, 0, 0, 248, 16, 120, 206}},
		{[]api.Item{}, []byte{118, 108, 109, 97, 114, 99, 104, 1, 0, 0, 0, 0, 0, 248, 16, 120, 206}},
		{[]api.Item{dirItem("/d")}, []byte{118, 108, 109, 97, 114, 99, 104, 1, 2, 2, 0, 47, 100, 0, 1, 0, 0, 0, 14, 116, 215, 206}},
	} {
		if b, e := dump.Pack(c.items); e != api.OK || !bytes.Equal(b, c.want) {
			t.Errorf("P1501: row %d: %v, %v", i, b, e)
		}
	}
	b, e := dump.Pack(three())
	if e != api.OK || len(b) != 578 || !bytes.Equal(b[574:], []byte{0xCC, 0xB9, 0x0C, 0x69}) {
		t.Errorf("P1501: example 3: %d bytes, %v", len(b), e)
	}
}

// deepest are directories one in the other, the last of which has a path of so many bytes.
func deepest(bytes int) []api.Item {
	var items []api.Item
	for path := ""; len(path) < bytes; {
		path += "/" + strings.Repeat("n", min(54, bytes-len(path)-1))
		items = append(items, dirItem(path))
	}
	return items
}

// everyName is a file for each byte that may be a name.
func everyName() []api.Item {
	var items []api.Item
	for x := 1; x < 256; x++ {
		if x != '.' && x != '/' {
			items = append(items, fileItem("/"+string([]byte{byte(x)}), 0, 0))
		}
	}
	return items
}

// Lists that are right, up to the edges of every rule.
func TestP1501Right(t *testing.T) {
	paths := func(paths ...string) []api.Item {
		var items []api.Item
		for _, p := range paths {
			items = append(items, dirItem(p))
		}
		return items
	}
	allOnes := strings.Repeat("\x01", 255)
	for i, items := range [][]api.Item{
		sample(), three(), deepest(1023), everyName(),
		paths("/a", "/a/z", "/a.b", "/b"), paths("/a", "/a/z", "/a\x01", "/a!", "/ab"), paths("/A", "/Z", "/a", "/a/\xff", "/b", "/\x7f", "/\x80", "/\xff"),
		paths("/a", "/a/a", "/a/a/a", "/a/a/b", "/a/b", "/aa", "/aa/a"), paths("/...", "/..a", "/.a", "/a."), paths("/" + strings.Repeat("x", 54)), paths("/é", "/日本"),
		{fileItem("/f", 1, 512, run(0, 1))}, {fileItem("/f", 511, 512, run(0, 1))}, {fileItem("/f", 512, 512, run(0, 1))}, {fileItem("/f", 513, 512, run(0, 1))}, {fileItem("/f", 513, 512, run(1, 2))}, {fileItem("/f", 513, 1024, run(0, 2))},
		{fileItem("/f", 513, 0)}, {fileItem("/f", api.MaxFile, 0)}, {fileItem("/f", api.MaxFile, 512, run(16521, 16522))}, {fileItem("/f", api.MaxFile-511, 512, run(16521, 16522))}, {fileItem("/f", 8459264, 1024, run(0, 1), run(16521, 16522))},
		{fileItem("/f", 3000, 2560, run(0, 1), run(2, 6))}, {fileItem("/f", 1025, 1024, run(0, 1), run(2, 3))},
		{linkItem("/l", "x")}, {linkItem("/l", allOnes)}, {linkItem("/l", "//..")}, {linkItem("/l", "\xff")}, {linkItem("/l", "/l")},
		{fileItem("/f", 0, 0), nameItem("/g", "/f"), nameItem("/h", "/f")}, {dirItem("/a"), fileItem("/a/f", 0, 0), nameItem("/a/g", "/a/f"), nameItem("/b", "/a/f")},
	} {
		if rule := packs(t, fmt.Sprint("row ", i), items); rule != 0 {
			t.Errorf("row %d breaks rule %d", i, rule)
		}
		lists(t, bytesOf(items), items)
	}
}

// spoilt says how a right list is made one that breaks a rule.
type spoilt struct {
	rule int
	how  func(l []api.Item) []api.Item
}

// at changes one item.
func at(i int, how func(x *api.Item)) func(l []api.Item) []api.Item {
	return func(l []api.Item) []api.Item {
		how(&l[i])
		return l
	}
}

// path gives an item of the sample another path.
func path(i int, p string) func(l []api.Item) []api.Item {
	return at(i, func(x *api.Item) { x.Path = p })
}

// to gives an item another target.
func to(i int, target string) func(l []api.Item) []api.Item {
	return at(i, func(x *api.Item) { x.Target = target })
}

// put sets an item in the place of another.
func put(i int, item api.Item) func(l []api.Item) []api.Item {
	return at(i, func(x *api.Item) { *x = item })
}

// more puts items behind those that there are.
func more(items ...api.Item) func(l []api.Item) []api.Item {
	return func(l []api.Item) []api.Item { return append(l, items...) }
}

// spoiltPaths are all that can be wrong in the paths of the sample.
func spoiltPaths() []spoilt {
	list := []spoilt{
		{3, func(l []api.Item) []api.Item { l[5], l[6] = l[6], l[5]; return l }},
		{3, func(l []api.Item) []api.Item { l[2], l[3] = l[3], l[2]; return l }},
		{3, func(l []api.Item) []api.Item { return append(l, l[6]) }},
		{3, func(l []api.Item) []api.Item { return slices.Insert(l, 1, l[0]) }},
		{3, path(3, "/Z")}, {3, path(4, "/a.B")}, {3, path(6, "/a/g")}, {3, path(6, "/c")}, {3, path(5, "/b")}, {3, path(6, "/\x01")},
		{3, func(l []api.Item) []api.Item { slices.Reverse(l); return l }},
		{4, func(l []api.Item) []api.Item { return l[1:] }},
		{4, path(6, "/c/x")}, {4, path(5, "/b/x")}, {4, path(4, "/a.b/x")}, {4, path(6, "/d/x")}, {4, path(3, "/a/z/x/y")}, {4, path(2, "/a/f/x")}, {4, path(0, "/a/b")},
		{4, put(0, fileItem("/a", 0, 0))}, {4, put(0, linkItem("/a", "/"))},
		{2, path(6, "/c2/"+strings.Repeat("x/", 509)+"yy")}, {2, func([]api.Item) []api.Item { return deepest(1024) }}, {2, func([]api.Item) []api.Item { return deepest(1076) }},
	}
	for _, p := range []string{"", "/", "c2", "c2/", "/c2/", "//c2", "/a//y", "/c2//", "/.", "/..", "/a/.", "/a/..", "/a/../c2", "/a/./y", "/c\x00", "/a\x00/y", "/\x00", "\x00/a", "/" + strings.Repeat("x", 55), "/a/" + strings.Repeat("x", 55), "/" + strings.Repeat("/", 54), "\\c2"} {
		for i := range sample() {
			list = append(list, spoilt{2, path(i, p)})
		}
	}
	return list
}

// spoiltFiles are all that can be wrong in a file.
func spoiltFiles() []spoilt {
	var list []spoilt
	for _, f := range []api.Item{
		fileItem("/d", -1, 0), fileItem("/d", api.MaxFile+1, 0), fileItem("/d", math.MaxInt, 0), fileItem("/d", math.MinInt, 0), fileItem("/d", math.MinInt+3, 512, run(0, 1)), fileItem("/d", 1<<32, 0), fileItem("/d", math.MaxInt, 512, run(0, 1)),
		fileItem("/d", 2000, 1024, run(0, 1), run(1, 2)), fileItem("/d", 2000, 1536, run(0, 2), run(1, 2)), fileItem("/d", 2000, 1024, run(2, 3), run(0, 1)), fileItem("/d", 2000, 1024, run(0, 1), run(0, 1)),
		fileItem("/d", 2000, 0, run(1, 1)), fileItem("/d", 2000, 0, run(0, 0)), fileItem("/d", 2000, 0, run(2, 1)), fileItem("/d", 2000, 512, run(2, 1)), fileItem("/d", 2000, 512, run(0, 1), run(3, 2), run(4, 5)), fileItem("/d", 4000, 512, run(0, 1), run(3, 3)), fileItem("/d", 4000, 1024, run(0, 1), run(3, 3), run(4, 5)),
		fileItem("/d", 2000, 512, run(-1, 0)), fileItem("/d", 2000, 1024, run(-1, 1)), fileItem("/d", 2000, 0, run(math.MinInt, 1)), fileItem("/d", 2000, 0, run(math.MinInt, math.MaxInt)), fileItem("/d", 2000, 512, run(math.MaxInt-1, math.MaxInt)), fileItem("/d", 2000, 0, run(0, math.MaxInt)), fileItem("/d", 2000, 512, run(0, 1), run(2, math.MaxInt)), fileItem("/d", 2000, 512, run(0, 1<<55+1)),
		fileItem("/d", 0, 512, run(0, 1)), fileItem("/d", 512, 1024, run(0, 2)), fileItem("/d", 1024, 512, run(2, 3)), fileItem("/d", 1025, 512, run(3, 4)), fileItem("/d", 513, 1536, run(0, 3)), fileItem("/d", api.MaxFile, 512, run(16522, 16523)),
		fileItem("/d", 2000, 511, run(0, 1)), fileItem("/d", 2000, 513, run(0, 1)), fileItem("/d", 2000, 0, run(0, 1)), fileItem("/d", 2000, 1, run(0, 1)), fileItem("/d", 2000, 1, []api.Run{}...), fileItem("/d", 2000, 512), fileItem("/d", 0, 1), fileItem("/d", 2000, 1023, run(0, 1), run(2, 3)), fileItem("/d", 2000, 1536, run(0, 1), run(2, 3)),
	} {
		list = append(list, spoilt{6, more(f)})
	}
	behind := func(size, place int, runs ...api.Run) spoilt {
		f := fileItem("/d", size, 1024, runs...)
		f.Data[place] = 1
		return spoilt{6, more(f)}
	}
	list = append(list, behind(513, 513, run(0, 2)), behind(513, 1023, run(0, 2)), behind(1023, 1023, run(0, 2)), behind(1537, 513, run(0, 1), run(3, 4)), behind(1537, 800, run(0, 1), run(3, 4)), behind(1537, 1023, run(2, 4)))
	return append(list, spoilt{6, to(5, "x")}, spoilt{6, to(1, "/c")}, spoilt{6, to(6, "/a/f")})
}

// spoiltOthers are all that can be wrong in the other items, and in kinds.
func spoiltOthers() []spoilt {
	var list []spoilt
	for _, kind := range []int{0, 5, -1, 6, 255, 256, 257, 258, math.MaxInt, math.MinInt, math.MinInt + 1} {
		for _, i := range []int{2, 5} {
			list = append(list, spoilt{5, at(i, func(x *api.Item) { x.Kind = kind })})
		}
	}
	for i, rule := range map[int]int{2: 7, 3: 8, 4: 9} {
		for _, how := range []func(x *api.Item){
			func(x *api.Item) { x.Size = 1 }, func(x *api.Item) { x.Size = -1 }, func(x *api.Item) { x.Size = 1 << 32 },
			func(x *api.Item) { x.Runs = []api.Run{{}} }, func(x *api.Item) { x.Runs = []api.Run{{From: 0, To: 1}} }, func(x *api.Item) { x.Data = []byte{0} }, func(x *api.Item) { x.Data = make([]byte, 512) },
			func(x *api.Item) { x.Size, x.Runs, x.Data = 512, []api.Run{{From: 0, To: 1}}, make([]byte, 512) },
		} {
			list = append(list, spoilt{rule, at(i, how)})
		}
	}
	list = append(list, spoilt{7, to(0, "x")}, spoilt{7, to(2, "/a/f")}, spoilt{7, to(2, "\x00")})
	for _, target := range []string{"", strings.Repeat("x", 256), strings.Repeat("x", 1<<16+5), "\x00", "x\x00", "\x00x", "x\x00x"} {
		list = append(list, spoilt{8, to(3, target)})
	}
	for _, target := range []string{"", "/", "/a", "/a/z", "/a.b", "/b", "/c", "/c2", "/none", "a/f", "/a/f/", "/a//f", "/a/./f", "/A/f", "/a/f\x00"} {
		list = append(list, spoilt{9, to(4, target)})
	}
	return append(list, spoilt{9, more(nameItem("/d", "/b"))}, spoilt{9, more(nameItem("/d", "/a/z"))}, spoilt{9, more(nameItem("/d", "/d"))}, spoilt{9, more(nameItem("/d", "/e"), fileItem("/e", 0, 0))})
}

// Lists that break a rule, each in one place.
func TestP1501Wrong(t *testing.T) {
	for i, s := range slices.Concat(spoiltPaths(), spoiltFiles(), spoiltOthers()) {
		items := s.how(sample())
		if rule := packs(t, fmt.Sprintf("spoilt %d, for rule %d", i, s.rule), items); rule != s.rule {
			t.Errorf("spoilt %d: rule %d, want %d", i, rule, s.rule)
		}
		asWords(t, fmt.Sprintf("spoilt %d", i), bytesOf(items)) // a number that is too great for its bytes may come out right
	}
}

// The order of errors, and the edges of how many and how long.
func TestP1501Order(t *testing.T) {
	asks := func(what string, items []api.Item, want api.Errno) {
		t.Helper()
		b, e := dump.Pack(items)
		if e != want || e != api.OK && len(b) != 0 || e == api.OK && !bytes.Equal(b, bytesOf(items)) {
			t.Errorf("P1501: %s: %d bytes, %v, want %v", what, len(b), e, want)
		}
	}
	asks("4096 items", many(4096), api.OK)
	asks("4097 items", many(4097), api.ErrLong)
	for _, i := range []int{0, 4095, 4096} {
		wrong := many(4097)
		wrong[i].Kind = 9
		asks("4097 items, one wrong", wrong, api.ErrLong)
		if i < 4096 {
			asks("4096 items, one wrong", wrong[:4096], api.ErrArchive)
		}
	}
	asks("4097 items of nothing", make([]api.Item, 4097), api.ErrLong)
	for _, n := range []int{1<<22 - 1, 1 << 22} {
		asks("just not too long", filled(n), api.OK)
		if b := bytesOf(filled(n)); len(b) != n {
			t.Fatalf("%d bytes, want %d", len(b), n)
		}
	}
	for _, n := range []int{1<<22 + 1, 1<<22 + 8, 1<<22 + 9, 1<<22 + 10, 1<<22 + 17, 1<<22 + 5000, 2 << 22} {
		items := filled(n)
		asks("too long", items, api.ErrLong)
		asks("too long, and a wrong item behind all others", append(items, linkItem("/z", "")), api.ErrArchive)
		items[0].Size--
		asks("too long, and a wrong item ahead of all others", items, api.ErrArchive)
	}
	asks("too long by one item", []api.Item{fileItem("/f", api.MaxFile, api.MaxFile, run(0, 16522))}, api.ErrLong)
	asks("too long by one item, and another", []api.Item{fileItem("/f", api.MaxFile, api.MaxFile, run(0, 16522)), dirItem("/g"), dirItem("/g/h")}, api.ErrLong)
	asks("too long by one item, and a wrong one", []api.Item{fileItem("/f", api.MaxFile, api.MaxFile, run(0, 16522)), dirItem("/g"), dirItem("/h/h")}, api.ErrArchive)
}

// What is handed in is not changed and not kept; what is answered is new memory.
func TestP2Pack(t *testing.T) {
	items := append(sample(), fileItem("/d", 2000, 2048, run(0, 4)))
	was := append(sample(), fileItem("/d", 2000, 2048, run(0, 4)))
	first, _ := dump.Pack(items)
	if !site.Same(items, was) {
		t.Error("P2: Pack has changed its items")
	}
	want := bytes.Clone(first)
	for i := range first {
		first[i] ^= 0xFF
	}
	_ = append(first, "behind"...)
	if !site.Same(items, was) {
		t.Error("P2: what Pack has answered is its items' memory")
	}
	if again, e := dump.Pack(items); e != api.OK || !bytes.Equal(again, want) {
		t.Errorf("P3: Pack answers otherwise the second time: %v", e)
	}
}

// Drawn lists, right ones and such to which one thing or two were done, are packed or refused as the chapter's words say; and listed again.
func TestP1501Drawn(t *testing.T) {
	t.Parallel()
	d := site.Lister{Dice: trial.NewDice(1501)}
	rules := map[int]int{}
	for range 12000 {
		items := d.Items()
		for range d.Below(3) {
			items = d.Spoil(items)
		}
		rule := packs(t, "a drawn list", items)
		rules[rule]++
		if rule == 0 {
			lists(t, bytesOf(items), items)
		}
	}
	for _, rule := range []int{0, 2, 3, 4, 5, 6, 7, 8, 9} {
		if rules[rule] < 50 {
			t.Errorf("the draw is thin: rule %d was broken %d times", rule, rules[rule])
		}
	}
	if rules[0] < 3000 {
		t.Errorf("the draw is thin: %d right lists", rules[0])
	}
}
