package walk_test

import (
	"strconv"
	"strings"
	"testing"

	"vellum/api"
)

func TestP1102Example2To8(t *testing.T) {
	r := sample(t)
	f, l, d := place(2, "f", 3, api.KFile), place(2, "l", 4, api.KLink), place(1, "d", 2, api.KDir)
	r.leads("/d/f", true, f)
	r.leads("/d/none", true, place(2, "none", 0, 0))
	r.stops("/none/f", true, api.ErrNotFound)
	r.leads("/d/f/", true, f)
	r.stops("/d/f/..", true, api.ErrNotDir)
	r.stops("/d/f/x", true, api.ErrNotDir)
	r.leads("/d/l", true, f)
	r.leads("/d/l", false, l)
	r.leads("/d/l/", false, l)
	r.leads("/up", true, d)
	r.leads("/up/l", false, l)
	r.stops("/self", true, api.ErrLoop)
	r.leads("/self", false, place(1, "self", 6, api.KLink))
	r.stops("/self/x", false, api.ErrLoop)
	r.leads("/gone", true, place(2, "none", 0, 0))
	r.stops("/gone/x", true, api.ErrNotFound)
	r.leads("/", true, nameless(1))
	r.leads("/..", true, nameless(1))
	r.leads("/d/..", false, nameless(1))
	r.leads("/d/.", true, d)
	is(t, "State", r.State(), api.OK)
}

// The path itself is asked ahead of all that lies on the disk.
func TestP1102PathFirst(t *testing.T) {
	for _, r := range []*tree{sample(t), bare(t, small)} {
		for path, want := range map[string]api.Errno{
			"": api.ErrPath, "d": api.ErrPath, "./d": api.ErrPath, "/\x00": api.ErrName, "/none/x/\x00": api.ErrName, "/d/f/\x00": api.ErrName, "/self/" + strings.Repeat("x", 55): api.ErrLong, strings.Repeat("/", 1024): api.ErrLong, strings.Repeat("d", 1024): api.ErrLong,
		} {
			r.stopsBoth(path, want)
		}
		is(t, "State", r.State(), api.OK)
	}
}

// 1: the root must be a directory, whatever the path is.
func TestP1102Root(t *testing.T) {
	paths := []string{"/", "//", "/.", "/..", "/a", "/a/b", "/../a"}
	r := bare(t, small)
	for _, path := range paths {
		r.stopsBoth(path, api.ErrNode)
	}
	for _, kind := range []int{api.KFile, api.KLink} {
		r := bare(t, small)
		r.make(kind, 0)
		for _, path := range paths {
			r.stopsBoth(path, api.ErrNotDir)
		}
		is(t, "State", r.State(), api.OK)
	}
	for _, path := range paths {
		r := planted(t, small)
		r.breaks(1)
		r.next()
		r.spoils(path, true)
		r.spoils(path, false)
	}
}

// 2: the root is its own parent, whatever its node says.
func TestP1102RootsParent(t *testing.T) {
	for _, parent := range []int{1, 2, 3, 8, 9, 1024} {
		r := sample(t)
		r.hangs(1, parent)
		for _, path := range []string{"/..", "/../..", "/d/../.."} {
			r.leadsBoth(path, nameless(1))
		}
		r.leadsBoth("/../d/../../d/f", place(2, "f", 3, api.KFile))
		r.inside(1, 2, false)
		r.inside(2, 1, true)
		r.path(1, "/")
		r.path(2, "/d")
	}
}

// 2: a directory's parent is what its node says, by whichever way it was come to.
func TestP1102Parent(t *testing.T) {
	r := planted(t, small)
	r.dir(1, "a")
	r.dir(2, "b")
	r.dir(3, "c")
	r.dir(1, "z")
	r.add(5, "c", 4, api.KDir) // one more name
	r.leadsBoth("/a/b/c", place(3, "c", 4, api.KDir))
	r.leadsBoth("/z/c", place(5, "c", 4, api.KDir))
	r.leadsBoth("/a/b/c/..", nameless(3))
	r.leadsBoth("/z/c/..", nameless(3))
	r.leadsBoth("/z/c/../..", nameless(2))
	r.leadsBoth("/z/c/../c", place(3, "c", 4, api.KDir))
	r.leadsBoth("/z/c/../../x", place(2, "x", 0, 0))
	r.hangs(4, 5)
	r.leadsBoth("/a/b/c/..", nameless(5))
	r.hangs(4, 4)
	r.leadsBoth("/a/b/c/../../..", nameless(4))
	r.leadsBoth("/a/b/c/../x", place(4, "x", 0, 0))
	is(t, "State", r.State(), api.OK)
}

// 2: what is no directory, or not there, is no parent.
func TestP1102NoParent(t *testing.T) {
	for _, parent := range []int{3, 4, 8, 9, 1000, 1024} {
		for _, path := range []string{"/d/..", "/d/../d", "/d/../..", "/up"} {
			r := sample(t)
			r.hangs(2, parent)
			r.next()
			r.leadsBoth("/d/f", place(2, "f", 3, api.KFile)) // the parent is not looked at here
			r.leadsBoth("/d", place(1, "d", 2, api.KDir))
			r.spoils(path, true)
		}
	}
	r := sample(t)
	r.hangs(2, 8)
	r.breaks(8)
	r.next()
	r.spoils("/d/..", true)
}

// 2 reads the directory's node alone: nothing of its content.
func TestP1102ParentAlone(t *testing.T) {
	r := sample(t)
	is(t, "WriteAt", r.WriteAt(2, 100, []byte("broken")), api.OK)
	r.next()
	r.leadsBoth("/d/..", nameless(1))
	r.leadsBoth("/d/../none", place(1, "none", 0, 0))
	r.leadsBoth("/d", place(1, "d", 2, api.KDir))
	r.inside(2, 1, true)
	r.path(2, "/d")
	r.spoils("/d/f", true)
	r.spoils("/d/none", false)
	r.spoils("/d/../d/f", false)
	r.spoils("/gone", true)
	r.leads("/gone", false, place(1, "gone", 7, api.KLink))
}

// 3: a name that is not there is a place, if it is the last one.
func TestP1102NotThere(t *testing.T) {
	r := sample(t)
	for _, path := range []string{"/none", "//none", "/none/", "/none/.", "/./none//.", "/d/../none", "/up/../none"} {
		r.leadsBoth(path, place(1, "none", 0, 0))
	}
	r.leadsBoth("/d/F", place(2, "F", 0, 0))
	r.leadsBoth("/d/f ", place(2, "f ", 0, 0))
	r.leadsBoth("/\xff", place(1, "\xff", 0, 0))
	r.leadsBoth("/"+strings.Repeat("x", 54), place(1, strings.Repeat("x", 54), 0, 0))
	for _, path := range []string{"/none/x", "/none/..", "/none/none", "/d/none/..", "/none/../d", "/up/none/f", "/none/self"} {
		r.stopsBoth(path, api.ErrNotFound)
	}
	is(t, "State", r.State(), api.OK)
	r.leadsBoth("/none", place(1, "none", 0, 0))
}

// 4: a file ends the way; its node is not looked at.
func TestP1102File(t *testing.T) {
	r := sample(t)
	r.add(1, "lost", 8, api.KFile)
	r.add(1, "dir", 2, api.KFile)
	r.add(1, "link", 4, api.KFile)
	r.lays(1, 7, api.Entry{Node: 1024, Kind: api.KFile, Name: "far"})
	r.next()
	for name, number := range map[string]int{"lost": 8, "dir": 2, "link": 4, "far": 1024} {
		for _, behind := range []string{"", "/", "/."} {
			r.leadsBoth("/"+name+behind, place(1, name, number, api.KFile))
		}
		for _, behind := range []string{"/x", "/..", "/f", "/./.."} {
			r.stopsBoth("/"+name+behind, api.ErrNotDir)
		}
	}
	is(t, "State", r.State(), api.OK)
}

// wrongs lays entries of that kind into the root, each of which names what is not of it, or is not there; it tells their names and nodes.
func (r *tree) wrongs(kind int) map[string]int {
	r.t.Helper()
	other := 2
	if kind == api.KDir {
		other = 4
	}
	r.add(1, "file", 3, kind)
	r.add(1, "other", other, kind)
	r.add(1, "lost", 8, kind)
	r.next()
	r.lays(1, 7, api.Entry{Node: 9, Kind: kind, Name: "behind"})
	r.lays(1, 8, api.Entry{Node: 1024, Kind: kind, Name: "far"})
	r.next()
	is(r.t, "Resize", r.Resize(1, 1024), api.OK)
	r.next()
	return map[string]int{"file": 3, "other": other, "lost": 8, "behind": 9, "far": 1024}
}

// 5: a directory that is the last thing on the way is not looked at; one that is not must be there.
func TestP1102Dir(t *testing.T) {
	r := sample(t)
	for _, path := range []string{"/d", "/d/", "/d/.", "//d", "/d/../d", "/../d"} {
		r.leadsBoth(path, place(1, "d", 2, api.KDir))
	}
	for name, number := range r.wrongs(api.KDir) {
		r.leadsBoth("/"+name, place(1, name, number, api.KDir))
		r.leadsBoth("/d/../"+name+"/.", place(1, name, number, api.KDir))
		for _, behind := range []string{"/x", "/..", "/f", "/../d"} {
			r.spoils("/"+name+behind, true)
			r.spoils("/"+name+behind, false)
		}
	}
	r.add(1, "root", 1, api.KDir)
	r.leadsBoth("/root", place(1, "root", 1, api.KDir))
	r.leadsBoth("/root/root/d", place(1, "d", 2, api.KDir))
	r.leadsBoth("/root/..", nameless(1))
	r.breaks(2)
	r.next()
	r.leadsBoth("/d", place(1, "d", 2, api.KDir))
	r.spoils("/d/f", true)
	r.spoils("/d/..", false)
}

// 6: a link that is not to be followed is not looked at; one that is must be there.
func TestP1102Link(t *testing.T) {
	r := sample(t)
	for name, number := range r.wrongs(api.KLink) {
		for _, behind := range []string{"", "/", "/."} {
			r.leads("/"+name+behind, false, place(1, name, number, api.KLink))
			r.spoils("/"+name+behind, true)
		}
		for _, behind := range []string{"/x", "/..", "/f"} {
			r.spoils("/"+name+behind, true)
			r.spoils("/"+name+behind, false)
		}
	}
	r.breaks(4)
	r.next()
	r.leads("/d/l", false, place(2, "l", 4, api.KLink))
	r.spoils("/d/l", true)
	r.spoils("/d/l/x", false)
}

// texts is the sample with one more link in the directory d: "x", of that text.
func texts(t *testing.T, text string) *tree {
	t.Helper()
	r := sample(t)
	r.link(2, "x", text)
	r.leads("/d/x", false, place(2, "x", 8, api.KLink))
	return r
}

// 6: what may not be the text of a link.
func TestP1102BadText(t *testing.T) {
	long := strings.Repeat("x", 55)
	for _, c := range []struct {
		text string
		want api.Errno
	}{
		{"", api.ErrPath},
		{strings.Repeat("/", 256), api.ErrLong}, {strings.Repeat("\x00", 256), api.ErrLong}, {strings.Repeat("./", 127) + "fg", api.ErrLong}, {strings.Repeat("f/", 2048), api.ErrLong},
		{"\x00", api.ErrName}, {"f\x00", api.ErrName}, {"/\x00", api.ErrName}, {"none/x/\x00", api.ErrName}, {"f/\x00", api.ErrName}, {"..\x00", api.ErrName}, {strings.Repeat("/", 254) + "\x00", api.ErrName},
		{long, api.ErrLong}, {"none/" + long, api.ErrLong}, {strings.Repeat("/", 200) + long, api.ErrLong}, {strings.Repeat("\x00", 55), api.ErrLong},
		{"\x00/" + long, api.ErrName}, {long + "/\x00", api.ErrLong},
	} {
		r := texts(t, c.text)
		r.stops("/d/x", true, c.want)
		r.stopsBoth("/d/x/f", c.want)
		r.stopsBoth("/d/x/..", c.want)
		is(t, "State", r.State(), api.OK)
	}
}

// 6: a text's parts come ahead of what is left to go: from the root, or from the directory in which the link lies.
func TestP1102Text(t *testing.T) {
	f, d := place(2, "f", 3, api.KFile), place(1, "d", 2, api.KDir)
	for text, want := range map[string]api.Place{
		"f": f, "./f": f, "f/": f, "f/.": f, "//d///f": f, "../d/f/": f, "l": f, "/up/l": f, "../d/../d/../up/./l": f, strings.Repeat("./", 127) + "f": f, strings.Repeat("/", 253) + "d": d,
		"/d": d, "../d": d, "../../../../d/": d, "/up": d, "../up": d,
		"/": nameless(1), "..": nameless(1), "/.": nameless(1), "/..": nameless(1), "../..": nameless(1), strings.Repeat("/", 255): nameless(1), "/d/..": nameless(1),
		".": nameless(2), "./": nameless(2), ".///.": nameless(2), "../d/../d/.": d, "../up/../d": d,
		"none": place(2, "none", 0, 0), "/none": place(1, "none", 0, 0), "../none": place(1, "none", 0, 0), "../gone": place(2, "none", 0, 0), "\xff\xfe": place(2, "\xff\xfe", 0, 0),
		strings.Repeat("n", 54): place(2, strings.Repeat("n", 54), 0, 0),
	} {
		r := texts(t, text)
		r.leads("/d/x", true, want)
		r.leads("/up/x", true, want)
		r.leads("/d/x/.", true, want)
		r.leads("/d/x//", true, want)
		switch want.Kind {
		case api.KFile:
			r.stopsBoth("/d/x/f", api.ErrNotDir)
			r.stopsBoth("/d/x/..", api.ErrNotDir)
		case api.KDir:
			r.leadsBoth("/d/x/new", place(want.Node, "new", 0, 0))
			r.leadsBoth("/d/x/..", nameless(1))
			r.leadsBoth("/d/x/../d", d)
		default:
			r.stopsBoth("/d/x/f", api.ErrNotFound)
			r.stopsBoth("/d/x/..", api.ErrNotFound)
		}
	}
}

// 6: what stops the way within a text, or behind it.
func TestP1102TextStops(t *testing.T) {
	for text, want := range map[string]api.Errno{
		"none/x": api.ErrNotFound, "none/x/": api.ErrNotFound, "none/..": api.ErrNotFound, "f/x": api.ErrNotDir, "f/..": api.ErrNotDir, "l/..": api.ErrNotDir, "x": api.ErrLoop, "x/x": api.ErrLoop, "/self": api.ErrLoop, "../d/x": api.ErrLoop, "/gone/x": api.ErrNotFound,
	} {
		r := texts(t, text)
		r.stops("/d/x", true, want)
		r.stopsBoth("/d/x/f", want)
		is(t, "State", r.State(), api.OK)
	}
}

// A text is all the bytes of the link's node, wherever they lie: a hole is zeros, and what is behind the size is none of it.
func TestP1102TextBytes(t *testing.T) {
	r := texts(t, "f/garbage")
	is(t, "Resize", r.Resize(8, 1), api.OK)
	r.leads("/d/x", true, place(2, "f", 3, api.KFile))
	is(t, "Resize", r.Resize(8, 2), api.OK)
	r.stops("/d/x", true, api.ErrName)
	is(t, "WriteAt", r.WriteAt(8, 1, []byte("oo")), api.OK)
	r.leads("/d/x", true, place(2, "foo", 0, 0))
	is(t, "Wipe", r.Wipe(8, 0, 512), api.OK)
	r.stops("/d/x", true, api.ErrName)
	is(t, "Resize", r.Resize(8, 55), api.OK)
	r.stops("/d/x", true, api.ErrLong)
	is(t, "Resize", r.Resize(8, 255), api.OK)
	r.stops("/d/x", true, api.ErrLong)
	is(t, "Resize", r.Resize(8, 8459264), api.OK)
	r.stops("/d/x", true, api.ErrLong)
	is(t, "Resize", r.Resize(8, 0), api.OK)
	r.stops("/d/x", true, api.ErrPath)
	is(t, "State", r.State(), api.OK)
}

// chained is a root with a file f and links 1 to n, of which each leads to the one before, and the first one to f.
func chained(t *testing.T, n int) *tree {
	t.Helper()
	r := planted(t, wide)
	r.file(1, "f")
	before := "f"
	for i := 1; i <= n; i++ {
		name := strconv.Itoa(i)
		r.link(1, name, before)
		before = name
	}
	return r
}

// Eight links may be followed on one way, wherever on it they lie.
func TestP1102Hops(t *testing.T) {
	r := chained(t, 12)
	r.link(1, "here", ".")
	f := place(1, "f", 2, api.KFile)
	for n := 1; n <= 12; n++ {
		name := "/" + strconv.Itoa(n)
		r.leads(name, false, place(1, name[1:], 2+n, api.KLink))
		if n > 8 {
			r.stops(name, true, api.ErrLoop)
			r.stopsBoth(name+"/x", api.ErrLoop)
			continue
		}
		r.leads(name, true, f)
		r.stopsBoth(name+"/x", api.ErrNotDir)
		for ahead := 1; ahead <= 9; ahead++ {
			path := strings.Repeat("/here", ahead) + name
			if ahead > 8 {
				r.stopsBoth(path, api.ErrLoop)
				continue
			}
			r.leads(path, false, place(1, name[1:], 2+n, api.KLink))
			if ahead+n > 8 {
				r.stops(path, true, api.ErrLoop)
			} else {
				r.leads(path, true, f)
			}
		}
	}
	r.leadsBoth(strings.Repeat("/here", 8)+"/f", f)
	r.leads(strings.Repeat("/here", 8), true, nameless(1))
	r.leads(strings.Repeat("/here", 9), false, place(1, "here", 15, api.KLink))
	r.stops(strings.Repeat("/here", 9), true, api.ErrLoop)
	is(t, "State", r.State(), api.OK)
}

// Too many links are told ahead of what is wrong with the next one.
func TestP1102LoopFirst(t *testing.T) {
	for _, text := range []string{"", "\x00", strings.Repeat("x", 256), "none/x"} {
		r := planted(t, wide)
		r.link(1, "here", ".")
		r.link(1, "bad", text)
		r.add(1, "lost", 40, api.KLink)
		r.add(1, "dir", 1, api.KLink)
		r.next()
		for _, bad := range []string{"/bad", "/lost", "/dir"} {
			r.stops(strings.Repeat("/here", 8)+bad, true, api.ErrLoop)
			r.stopsBoth(strings.Repeat("/here", 8)+bad+"/x", api.ErrLoop)
		}
		is(t, "State", r.State(), api.OK)
		r.spoils(strings.Repeat("/here", 7)+"/lost", true)
		r.spoils(strings.Repeat("/here", 7)+"/dir/x", false)
	}
}

// What is left to go may become longer than a path may be: the texts are not counted as one.
func TestP1102LongWay(t *testing.T) {
	r := planted(t, wide)
	names := []string{"a", "b"}
	in := 1
	for range 9 {
		name := strings.Repeat(names[in%2], 54)
		in = r.dir(in, name)
	}
	deep, e := r.Path(in)
	is(t, "Path", e, api.OK)
	r.leadsBoth(deep, place(in-1, deep[len(deep)-54:], in, api.KDir))
	far := strings.Join(strings.Split(deep, "/")[:5], "/") // 220 bytes
	r.link(1, "far", far)
	rest := strings.TrimPrefix(deep, far)
	padded := "/far" + rest + strings.Repeat("/.", 300) + "/../" + deep[len(deep)-54:]
	r.leadsBoth(padded, place(in-1, deep[len(deep)-54:], in, api.KDir))
	path := "/far" + strings.Repeat("/..", 5) + strings.Repeat("/far/../../../..", 7)
	path += strings.Repeat("/", 1023-len(path)-len(deep)) + deep
	if len(path) != 1023 {
		t.Fatalf("%d bytes", len(path))
	}
	r.leadsBoth(path, place(in-1, deep[len(deep)-54:], in, api.KDir))
	r.stopsBoth(path+"/", api.ErrLong)
}

// An error that does not spoil leaves the transaction as it was: P4 and P7.
func TestP1102ErrorsLeave(t *testing.T) {
	r := sample(t)
	r.add(1, "new", 3, api.KFile)
	was := blocks(t, r)
	for path, want := range map[string]api.Errno{
		"": api.ErrPath, "/\x00": api.ErrName, strings.Repeat("/", 1024): api.ErrLong, "/none/x": api.ErrNotFound, "/d/f/x": api.ErrNotDir, "/self": api.ErrLoop,
	} {
		r.stops(path, true, want)
		is(t, "State", r.State(), api.OK)
	}
	if list := unlike(was, blocks(t, r)); list != nil {
		t.Fatalf("P4: the blocks %v are changed", list)
	}
	r.leadsBoth("/new", place(1, "new", 3, api.KFile))
	r.next()
	r.leadsBoth("/new", place(1, "new", 3, api.KFile))
}
