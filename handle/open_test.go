package handle_test

import (
	"math"
	"slices"
	"strings"
	"testing"

	"vellum/api"
	"vellum/site"
	"vellum/trial"
)

// rightModes are all that may be.
func rightModes() []int {
	return []int{1, 9, 25, 2, 3, 6, 7, 10, 11, 14, 15, 26, 27, 30, 31, 34, 35, 38, 39, 42, 43, 46, 47, 58, 59, 62, 63}
}

func TestP1402Modes(t *testing.T) {
	b := planted(t)
	var modes []int
	for mode := -300; mode <= 300; mode++ {
		modes = append(modes, mode)
	}
	modes = append(modes, math.MinInt, math.MaxInt, math.MinInt+1, math.MinInt+3, 1<<32+1, 1<<40+3, 1<<62+1, 1<<16+2)
	for _, mode := range modes {
		right := slices.Contains(rightModes(), mode)
		if !right {
			for _, path := range []string{"/a", "/none", "/none/x", "/", "/self"} {
				b.opens(path, mode, 0, api.ErrMode)
			}
			b.there("/none", false)
			continue
		}
		path := "/a"
		if mode&mFresh != 0 {
			path = "/new"
		}
		b.opens(path, mode, 1, api.OK)
		b.closes(1, api.OK)
		if mode&mFresh != 0 {
			b.all(site.Unlink("/new"))
		}
	}
}

// Each right mode, at a file that is there and at one that is not: what is opened, made and emptied, and what the handle may do then.
func TestP1402EachMode(t *testing.T) {
	first := planted(t)
	trial.Is(t, "Sync", first.f.Sync(), api.OK)
	for _, mode := range rightModes() {
		b := first.copied()
		text := "hello"
		if mode&mFresh != 0 {
			b.opens("/a", mode, 0, api.ErrExists)
			b.held()
			b.holds("/a", text)
		} else {
			b.opens("/a", mode, 1, api.OK)
			if mode&mEmpty != 0 {
				text = ""
			}
			b.holds("/a", text)
			b.held(2)
			b.allows(1, mode, text)
		}
		b = first.copied()
		if mode&mCreate == 0 {
			b.opens("/d/new", mode, 0, api.ErrNotFound)
			b.there("/d/new", false)
			b.held()
			continue
		}
		b.opens("/d/new", mode, 1, api.OK)
		b.there("/d/new", true)
		b.stats(1, api.Stat{Node: 11, Kind: api.KFile, Links: 1}, api.OK)
		b.held(11)
		b.allows(1, mode, "")
	}
}

// allows asks what the mode of a new handle lets it do, with a file that holds this text.
func (b *bench) allows(h, mode int, text string) {
	b.t.Helper()
	b.stands(h, 0)
	if mode&mRead == 0 {
		b.reads(h, 2, "", api.ErrMode)
		b.reads(h, -1, "", api.ErrMode)
		b.reads(h, 65537, "", api.ErrMode)
		b.stands(h, 0)
	} else {
		b.reads(h, 2, text[:min(2, len(text))], api.OK)
		b.stands(h, min(2, len(text)))
	}
	b.seeks(h, 1, 0, 1, api.OK)
	switch long := strings.Repeat("x", 65537); {
	case mode&mWrite == 0:
		b.writes(h, "XY", 0, api.ErrMode)
		b.writes(h, "", 0, api.ErrMode)
		b.writes(h, long, 0, api.ErrMode)
		b.stands(h, 1)
		b.sized(h, len(text))
	case mode&mAppend != 0:
		b.writes(h, long, 0, api.ErrLong)
		b.stands(h, 1)
		b.writes(h, "XY", 2, api.OK)
		b.stands(h, len(text)+2)
		b.sized(h, len(text)+2)
	default:
		b.writes(h, long, 0, api.ErrLong)
		b.stands(h, 1)
		b.writes(h, "XY", 2, api.OK)
		b.stands(h, 3)
		b.sized(h, max(len(text), 3))
	}
	b.closes(h, api.OK)
}

// ErrDead, ErrMany, the path, the mode, and then what the tree refuses.
func TestP1402Order(t *testing.T) {
	b := planted(t)
	paths := []struct {
		path string
		want api.Errno
	}{
		{"", api.ErrPath}, {"a", api.ErrPath}, {"a\x00", api.ErrPath}, {"./a", api.ErrPath}, {strings.Repeat("/", 1024), api.ErrLong}, {strings.Repeat("x", 1024), api.ErrLong},
		{"/\x00", api.ErrName}, {"/a/\x00", api.ErrName}, {"/" + strings.Repeat("n", 55), api.ErrLong}, {"/none/" + strings.Repeat("n", 55), api.ErrLong}, {"/self/\x00", api.ErrName},
	}
	for _, p := range paths {
		for _, mode := range []int{0, 1, 64, -1, mRead + mCreate + mFresh, mWrite + mEmpty, mRead + mAppend} {
			b.opens(p.path, mode, 0, p.want)
		}
	}
	b.opens("/none/x", mRead+mAppend, 0, api.ErrMode)
	b.opens("/a", mRead+mFresh, 0, api.ErrMode)
	b.held()
	for h := range 16 {
		b.opens("/a", mRead, h+1, api.OK)
	}
	for _, p := range append(paths, paths[0], struct {
		path string
		want api.Errno
	}{"/new", api.OK}) {
		for _, mode := range []int{0, 1, 64, mRead + mCreate, mRead + mCreate + mFresh, mWrite + mEmpty} {
			b.opens(p.path, mode, 0, api.ErrMany)
		}
	}
	b.opens("/a", mWrite+mEmpty, 0, api.ErrMany)
	b.there("/new", false)
	b.sized(1, 5)
	b.d.Fuse(0)
	b.opens("", 0, 0, api.ErrDead)
	b.opens("/a", mRead, 0, api.ErrDead)
	b.d.Crash(nil)
	b.opens("", 0, 0, api.ErrDead)
	b.opens("/a", mRead, 0, api.ErrDead)
}

// opening is an Open and what it answers; made says whether there is a name more then.
type opening struct {
	path string
	mode int
	want api.Errno
	node int
	made string
}

// What the tree refuses and what it leads to, with and without MCreate and MFresh.
func TestP1402Steps(t *testing.T) {
	const c, f = mRead + mCreate, mRead + mCreate + mFresh
	first := planted(t)
	trial.Is(t, "Sync", first.f.Sync(), api.OK)
	for _, o := range []opening{
		{"/a", mRead, api.OK, 2, ""}, {"/a", c, api.OK, 2, ""}, {"/a", f, api.ErrExists, 0, ""},
		{"//a/.", mRead, api.OK, 2, ""}, {"/d/../a/", c, api.OK, 2, ""}, {"/d/b", mRead, api.OK, 4, ""}, {"/up/b", mRead, api.OK, 4, ""}, {"/up/../a", mRead, api.OK, 2, ""},
		{"/l", mRead, api.OK, 2, ""}, {"/l", c, api.OK, 2, ""}, {"/l", f, api.ErrExists, 0, ""}, {"/l/", f, api.ErrExists, 0, ""},
		{"/", mRead, api.ErrIsDir, 0, ""}, {"/", c, api.ErrIsDir, 0, ""}, {"/", f, api.ErrPath, 0, ""},
		{"/d", mRead, api.ErrIsDir, 0, ""}, {"/d", c, api.ErrIsDir, 0, ""}, {"/d", f, api.ErrExists, 0, ""}, {"/up", mRead, api.ErrIsDir, 0, ""}, {"/up", c, api.ErrIsDir, 0, ""}, {"/up", f, api.ErrExists, 0, ""},
		{"/d/..", mRead, api.ErrIsDir, 0, ""}, {"/d/..", c, api.ErrIsDir, 0, ""}, {"/d/..", f, api.ErrPath, 0, ""},
		{"/none/..", mRead, api.ErrNotFound, 0, ""}, {"/none/..", c, api.ErrPath, 0, ""}, {"/none/..", f, api.ErrPath, 0, ""},
		{"/gone", mRead, api.ErrNotFound, 0, ""}, {"/gone", c, api.ErrExists, 0, ""}, {"/gone", f, api.ErrExists, 0, ""}, {"/far", mRead, api.ErrNotFound, 0, ""}, {"/far", c, api.ErrExists, 0, ""}, {"/far", f, api.ErrExists, 0, ""},
		{"/self", mRead, api.ErrLoop, 0, ""}, {"/self", c, api.ErrLoop, 0, ""}, {"/self", f, api.ErrExists, 0, ""}, {"/self/x", c, api.ErrLoop, 0, ""}, {"/self/x", f, api.ErrLoop, 0, ""},
		{"/a/x", mRead, api.ErrNotDir, 0, ""}, {"/a/x", c, api.ErrNotDir, 0, ""}, {"/a/x", f, api.ErrNotDir, 0, ""}, {"/a/..", c, api.ErrNotDir, 0, ""},
		{"/none/x", mRead, api.ErrNotFound, 0, ""}, {"/none/x", c, api.ErrNotFound, 0, ""}, {"/none/x", f, api.ErrNotFound, 0, ""}, {"/gone/x", c, api.ErrNotFound, 0, ""},
		{"/new", mRead, api.ErrNotFound, 0, ""}, {"/new", c, api.OK, 11, "/new"}, {"/new", f, api.OK, 11, "/new"}, {"/up/new/", c, api.OK, 11, "/d/new"}, {"/up/new", f, api.OK, 11, "/d/new"}, {"/e/../d/./new", c, api.OK, 11, "/d/new"},
	} {
		b := first.copied()
		left := b.left(0, 0)
		if o.made != "" {
			left = b.left(0, -1)
			if strings.HasPrefix(o.made, "/new") { // the root has eight names already
				left = b.left(-1, -1)
			}
		}
		want := 0
		if o.want == api.OK {
			want = 1
		}
		b.opens(o.path, o.mode, want, o.want)
		left()
		if o.want != api.OK {
			b.held()
			continue
		}
		b.held(o.node)
		if o.made != "" {
			b.there(o.made, true)
			b.sized(1, 0)
		}
	}
}

// A file that can't be made for want of room is not there.
func TestP1402Room(t *testing.T) {
	b := onDisk(t, site.Made(t, api.Super{Sectors: 25, Log: 18, Nodes: 4})) // one data block
	b.opens("/a", mRead+mCreate+mFresh, 1, api.OK)
	b.all(site.Mkdir("/d"))
	b.room(0, 1)
	b.opens("/d/x", mRead+mCreate, 0, api.ErrNoSpace)
	b.opens("/d/x", mRead+mCreate+mFresh, 0, api.ErrNoSpace)
	b.opens("/b", mWrite+mCreate, 2, api.OK)
	b.opens("/c", mWrite+mCreate, 0, api.ErrNoNodes)
	b.opens("/d/x", mWrite+mCreate+mFresh, 0, api.ErrNoNodes)
	b.room(0, 0)
	b.opens("/b", mRead, 3, api.OK)
}

// MEmpty empties the file for all, also where a link leads to it and others have it open; what it refuses empties nothing.
func TestP1402Empty(t *testing.T) {
	b := planted(t)
	b.all(site.Write("/a", 6000, "far"))
	b.opens("/a", mRead, 1, api.OK)
	b.seeks(1, 3, 0, 3, api.OK)
	freed := b.left(3, 0)
	b.opens("/l", mRead+mWrite+mEmpty, 2, api.OK)
	freed()
	b.stats(1, api.Stat{Node: 2, Kind: api.KFile, Links: 1}, api.OK)
	b.reads(1, 9, "", api.OK)
	b.stands(1, 3)
	b.all(site.Write("/a", 0, "again"))
	b.opens("/a", mRead+mEmpty, 0, api.ErrMode)
	b.opens("/a", mWrite+mEmpty+mCreate+mFresh, 0, api.ErrExists)
	b.opens("/a", mWrite+mEmpty+mFresh, 0, api.ErrMode)
	b.holds("/a", "again")
	b.opens("/up", mWrite+mEmpty, 0, api.ErrIsDir)
	b.opens("/new", mWrite+mEmpty+mCreate, 3, api.OK)
	b.sized(3, 0)
}

// The handle is the lowest number that is not open, whatever was closed before in whatever order.
func TestP1402Lowest(t *testing.T) {
	b := planted(t)
	dice := trial.NewDice(1402)
	open := map[int]int{}
	many := 0
	for range 1500 {
		if dice.Below(100) < 45 {
			h := dice.Below(18)
			want := api.ErrHandle
			if open[h] != 0 {
				want = api.OK
			}
			b.closes(h, want)
			delete(open, h)
			continue
		}
		want := 1
		for open[want] != 0 {
			want++
		}
		if want > 16 {
			b.opens("/a", mRead, 0, api.ErrMany)
			many++
			continue
		}
		b.opens(trial.One(dice, "/a", "/l", "/d/b"), trial.One(dice, 1, 2, 3, 7), want, api.OK)
		open[want] = 1
	}
	if many < 20 {
		t.Errorf("the draw is thin: %d times all were open", many)
	}
}

// A new handle begins at 0, whatever the place of the closed one of that number, or of another handle of the file.
func TestP1402Place(t *testing.T) {
	b := planted(t)
	b.opens("/a", mRead+mWrite, 1, api.OK)
	b.seeks(1, 4, 0, 4, api.OK)
	b.opens("/a", mRead+mWrite+mAppend, 2, api.OK)
	b.stands(2, 0)
	b.reads(2, 2, "he", api.OK)
	b.stands(1, 4)
	b.closes(1, api.OK)
	b.opens("/a", mRead, 1, api.OK)
	b.stands(1, 0)
	b.stands(2, 2)
}
