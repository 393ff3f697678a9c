package find_test

import (
	"iter"
	"slices"
	"strings"
	"testing"

	"vellum/api"
	"vellum/find"
	"vellum/fs"
	"vellum/site"
	"vellum/trial"
)

// begun is a sequence that answers OK.
func begun(g *site.Ground, path, query string) iter.Seq[string] {
	g.T.Helper()
	seq, e := find.Each(g.F, path, query)
	if seq == nil || e != api.OK {
		g.T.Fatalf("P1909: Each(%q, %q): %v", path, query, e)
	}
	return seq
}

// eachOf is what P1909 says of a sequence, find by find; it tells each text before it asks for anything behind it.
func eachOf(f *fs.FS, path, query string, yield func(text string) bool) {
	whole := parsed(query)
	var down func(s spot) bool
	down = func(s spot) bool {
		if holdsAt(f, whole, s) && !yield(s.text) {
			return false
		}
		if s.stat.Kind != 2 {
			return true
		}
		for _, entry := range f.Do(site.List(s.text)).Entries {
			text := strings.TrimSuffix(s.text, "/") + "/" + entry.Name
			if reply := f.Do(site.Lstat(text)); reply.Err == api.OK && !down(spot{text, s.depth + 1, reply.Stat}) {
				return false
			}
		}
		return true
	}
	if reply := f.Do(site.Stat(path)); reply.Err == api.OK {
		down(spot{pathText(path), 0, reply.Stat})
	}
}

// Nothing is asked before a text is wanted, and at each text no more than the words ask; behind a stop nothing.
func TestP1909Asks(t *testing.T) {
	t.Parallel()
	for _, c := range []struct{ path, query string }{
		{"/", "all"}, {"/d", "all"}, {"/one", "all"}, {"/", "kind file"}, {"/", "kind dir and empty"}, {"/", "holds x or name d"}, {"/", "not has all"}, {"/", "has name two and sparse or begins \"\""}, {"/", "same /one or target *"}, {"/dir", "all"}, {"/", "not all"},
	} {
		g := garden(t)
		twin := g.Copied()
		g = g.Copied()
		seq := begun(g, c.path, c.query)
		// what is asked up to each text, and at last up to the end
		var asked []int
		was := twin.D.Counts().Reads
		eachOf(twin.F, c.path, c.query, func(string) bool {
			asked = append(asked, twin.D.Counts().Reads-was)
			return true
		})
		asked = append(asked, twin.D.Counts().Reads-was)
		if asked[len(asked)-1] == 0 {
			t.Fatalf("the disk is not asked")
		}
		for stop := range asked {
			was, n := g.D.Counts().Reads, 0
			for range seq {
				if got := g.D.Counts().Reads - was; got > asked[n] {
					t.Fatalf("P1909: %q from %q: %d reads up to text %d, want no more than %d", c.query, c.path, got, n, asked[n])
				}
				if n++; n > stop {
					was = g.D.Counts().Reads
					break
				}
			}
			now := g.D.Counts().Reads - was
			if n > stop && now != 0 {
				t.Fatalf("P1909: %q from %q: stopped at text %d: %d reads behind it", c.query, c.path, n, now)
			}
			if n <= stop && now > asked[n] {
				t.Fatalf("P1909: %q from %q: %d reads in all, want no more than %d", c.query, c.path, now, asked[n])
			}
		}
	}
}

// Each by itself asks for the errors of Run alone: for what is free, and for the start.
func TestP1909Before(t *testing.T) {
	g := sample(t)
	reads := func(do func()) int {
		was := g.D.Counts().Reads
		do()
		return g.D.Counts().Reads - was
	}
	most := reads(func() {
		g.F.Space()
		g.F.Do(site.Stat("/d"))
	})
	var seq iter.Seq[string]
	if got := reads(func() { seq = begun(g, "/d", "has holds x or same /l") }); got > most {
		t.Errorf("P1909: Each makes %d reads, want no more than %d", got, most)
	}
	g.All(site.Unlink("/d/b"), site.Create("/d/x"))
	if got := slices.Collect(seq); len(got) != 0 {
		t.Errorf("P1909: %q", got)
	}
	g.All(site.Write("/d/x", 0, "x"))
	if got := slices.Collect(seq); !slices.Equal(got, []string{"/d"}) {
		t.Errorf("P1909: %q", got)
	}
}

// What comes behind a text is by the tree as it is then.
func TestP1909Changes(t *testing.T) {
	for i, c := range []struct {
		path, query, at string
		do              []api.Op
		want            string
	}{
		{"/", "all", "/", []api.Op{site.Create("/b"), site.Unlink("/l")}, "/ /a /b /d /d/b /d/c"},
		{"/", "all", "/a", []api.Op{site.Create("/b"), site.Unlink("/l")}, "/ /a /d /d/b /d/c"},
		{"/", "all", "/a", []api.Op{site.Unlink("/d/b"), site.Unlink("/d/c"), site.Rmdir("/d")}, "/ /a /l"},
		{"/", "all", "/a", []api.Op{site.Rename("/d", "/e")}, "/ /a /l"},
		{"/", "all", "/d", []api.Op{site.Rename("/d", "/e")}, "/ /a /d /l"},
		{"/", "all", "/d", []api.Op{site.Create("/d/x"), site.Unlink("/d/b")}, "/ /a /d /d/c /d/x /l"},
		{"/", "all", "/d/b", []api.Op{site.Create("/d/x"), site.Unlink("/d/c")}, "/ /a /d /d/b /l"},
		{"/", "all", "/d/b", []api.Op{site.Rename("/d", "/e")}, "/ /a /d /d/b /l"},
		{"/", "all", "/d/b", []api.Op{site.Rename("/d", "/e"), site.Mkdir("/d"), site.Mkdir("/d/c"), site.Create("/d/c/z")}, "/ /a /d /d/b /d/c /d/c/z /l"},
		{"/", "all", "/a", []api.Op{site.Unlink("/l"), site.Mkdir("/l"), site.Create("/l/in")}, "/ /a /d /d/b /d/c /l /l/in"},
		{"/", "kind dir", "/", []api.Op{site.Unlink("/l"), site.Mkdir("/l"), site.Create("/l/in")}, "/ /d /l"},
		{"/", "all", "/d", []api.Op{site.Rename("/d", "/e"), site.Create("/d")}, "/ /a /d /l"},
		{"/", "all", "/d", []api.Op{site.Rename("/d", "/e"), site.Symlink("/d", "e")}, "/ /a /d /d/b /d/c /l"},
		{"/", "all", "/d", []api.Op{site.Rename("/d", "/e"), site.Symlink("/d", "none")}, "/ /a /d /l"},
		{"/", "kind file and size = 5", "/a", []api.Op{site.Write("/a", 5, "!"), site.Truncate("/d/c", 5)}, "/a /d/c"},
		{"/", "kind file and size = 5", "/a", []api.Op{site.Truncate("/d/b", 4)}, "/a"},
		{"/", "same /l", "/a", []api.Op{site.Unlink("/l"), site.Symlink("/l", "d/c")}, "/a /d/c"},
		{"/", "same /l", "/a", []api.Op{site.Unlink("/l")}, "/a"},
		{"/", "same /x or name a", "/a", []api.Op{site.Link("/d/c", "/x")}, "/a /d/c"},
		{"/", "holds h", "/a", []api.Op{site.Write("/a", 0, "j"), site.Write("/d/c", 1999, "h")}, "/a /d/c"},
		{"/", "has all", "/", []api.Op{site.Unlink("/d/b"), site.Unlink("/d/c")}, "/"},
		{"/", "sparse or name a", "/a", []api.Op{site.Punch("/a", 0, 5), site.Truncate("/a", 5000)}, "/a /d/b /d/c"},
		{"/", "target d/b or name d", "/d", []api.Op{site.Unlink("/l"), site.Symlink("/l", "d/c")}, "/d"},
		{"/d", "all", "/d", []api.Op{site.Rename("/d", "/e")}, "/d"},
		{"/d", "all", "/d/b", []api.Op{site.Rename("/d", "/e")}, "/d /d/b"},
		{"/l", "all", "/l", []api.Op{site.Unlink("/l")}, "/l"},
	} {
		g := sample(t)
		var got []string
		for text := range begun(g, c.path, c.query) {
			got = append(got, text)
			if text == c.at {
				g.All(c.do...)
			}
		}
		if strings.Join(got, " ") != c.want {
			t.Errorf("P1909: row %d: %q, want %q", i, strings.Join(got, " "), c.want)
		}
	}
}

// Drawn changes between any two texts, at a sequence and at the words on a second disk.
func TestP1909Drawn(t *testing.T) {
	t.Parallel()
	d := trial.NewDice(1909)
	count, changed, texts := 0, 0, 0
	for range 600 {
		g := site.Fresh(t, api.Super{Sectors: 200, Log: 40, Nodes: 40})
		p := site.Planter{Dice: d}
		for range 60 + d.Below(60) {
			g.F.Do(p.Op())
		}
		g.Synced()
		a, b := g.Copied(), g.Copied()
		ask := asker{d, textsOf(spotsOf(a.F, spot{"/", 0, a.F.Do(site.Stat("/")).Stat}))}
		path, query := trial.One(d, "/", "/", trial.One(d, ask.paths...)), trial.One(d, "all", "not kind link", ask.query())
		if _, e := findsOf(a.F, path, query); e != api.OK {
			continue
		}
		count++
		stop, seed, each := trial.One(d, 1000, 1000, d.Below(9)), d.Below(1<<20), 1+d.Below(20)
		list := func(f *fs.FS, seq func(yield func(string) bool)) []string {
			var list []string
			p := site.Planter{Dice: trial.NewDice(seed)}
			seq(func(text string) bool {
				list = append(list, text)
				for range p.Below(each) {
					if f.Do(p.Op()).Err == api.OK {
						changed++
					}
				}
				return len(list) < stop
			})
			return list
		}
		got := list(a.F, begun(a, path, query))
		want := list(b.F, func(yield func(string) bool) { eachOf(b.F, path, query, yield) })
		if !slices.Equal(got, want) {
			t.Fatalf("P1909: Each(%q, %q): %q, want %q", path, query, got, want)
		}
		texts += len(got)
		trial.Is(t, "Sync", a.F.Sync(), b.F.Sync())
		if !slices.Equal(a.D.Image(), b.D.Image()) {
			t.Fatalf("P1909, P1911: the disks are unlike")
		}
	}
	if count < 200 || changed < 1000 || texts < 1000 {
		t.Errorf("the draw is thin: %d, %d, %d", count, changed, texts)
	}
}

// A sequence begins anew each time, also within its own loop and side by side with itself.
func TestP1909Again(t *testing.T) {
	g := sample(t)
	seq := begun(g, "/", "not name c")
	want := []string{"/", "/a", "/d", "/d/b", "/l"}
	var outer []string
	for text := range seq {
		outer = append(outer, text)
		if inner := slices.Collect(seq); !slices.Equal(inner, want) {
			t.Fatalf("P1909: within its own loop: %q", inner)
		}
		for range seq {
			break
		}
	}
	if !slices.Equal(outer, want) {
		t.Errorf("P1909: around itself: %q", outer)
	}
	next, stop := iter.Pull(seq)
	other, end := iter.Pull(seq)
	defer stop()
	defer end()
	for i := range want {
		one, _ := next()
		if i > 1 {
			if two, _ := other(); two != want[i-2] {
				t.Errorf("P1909: side by side: %q, want %q", two, want[i-2])
			}
		}
		if one != want[i] {
			t.Errorf("P1909: side by side: %q, want %q", one, want[i])
		}
	}
	if text, more := next(); more {
		t.Errorf("P1909: behind the end: %q", text)
	}
}

// Ranged over again it begins with Stat of its path, whatever is there now.
func TestP1909Stat(t *testing.T) {
	g := sample(t)
	seq := begun(g, "/d", "all")
	for _, c := range []struct {
		do   []api.Op
		want string
	}{
		{nil, "/d /d/b /d/c"}, {[]api.Op{site.Rename("/d", "/e")}, ""}, {nil, ""}, {[]api.Op{site.Create("/d")}, "/d"}, {[]api.Op{site.Unlink("/d"), site.Symlink("/d", "e")}, "/d /d/b /d/c"}, {[]api.Op{site.Unlink("/e/c")}, "/d /d/b"}, {[]api.Op{site.Unlink("/d"), site.Symlink("/d", "d")}, ""}, {[]api.Op{site.Unlink("/d"), site.Rename("/e", "/d")}, "/d /d/b"},
	} {
		g.All(c.do...)
		if got := strings.Join(slices.Collect(seq), " "); got != c.want {
			t.Errorf("P1909: behind %v: %q, want %q", c.do, got, c.want)
		}
	}
}

// A sequence ends where its file system dies, at whichever text, and is at an end ever after.
func TestP1909Dead(t *testing.T) {
	for _, query := range []string{"all", "not holds x", "not has name b", "not sparse", "not same /a", "not target x"} {
		for at := range 6 {
			for _, end := range []func(g *site.Ground){
				func(g *site.Ground) { g.D.Fuse(0) }, func(g *site.Ground) { g.D.Crash(nil) }, func(g *site.Ground) { g.D.Take() }, func(g *site.Ground) { site.Mounted(t, g.D) },
				func(g *site.Ground) { g.D.Fuse(0); trial.Is(t, "Sync", g.F.Sync(), api.ErrDead) },
			} {
				g := sample(t)
				seq := begun(g, "/", query)
				var got []string
				reads := 0
				for text := range seq {
					if got = append(got, text); len(got) == at+1 {
						end(g)
						reads = g.D.Counts().Reads
					}
				}
				if len(got) > at+1 {
					t.Errorf("P1909: %q: dead at text %d: %q", query, at, got)
				}
				if len(got) == at+1 && g.D.Counts().Reads != reads {
					t.Errorf("P1909: %q: dead at text %d: %d reads behind it", query, at, g.D.Counts().Reads-reads)
				}
				if len(got) == at+1 {
					for text := range seq {
						t.Errorf("P1909: %q of a dead one", text)
					}
				}
			}
		}
	}
}
