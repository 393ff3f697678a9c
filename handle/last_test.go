package handle_test

import (
	"strconv"
	"testing"

	"vellum/api"
	"vellum/site"
	"vellum/trial"
)

func TestP1407(t *testing.T) {
	b := planted(t)
	b.opens("/a", mRead, 1, api.OK)
	b.opens("/a", mRead+mWrite, 2, api.OK)
	b.seeks(2, 2, 0, 2, api.OK)
	left := b.left(0, 0)
	b.closes(1, api.OK)
	b.closes(1, api.ErrHandle)
	for _, a := range answersOf(b.k, 1) {
		trial.Is(t, "P1407: behind Close: "+a.what, a.e, api.ErrHandle)
	}
	b.held(2)
	b.reads(2, 9, "llo", api.OK)
	b.closes(2, api.OK)
	b.held()
	left()
	b.holds("/a", "hello")
}

// A file without a name is there till the last of all that hold it is gone: handles of one desk, of another, and who holds it by himself.
func TestP1407Orphan(t *testing.T) {
	b := planted(t)
	k := b.beside()
	b.all(site.Write("/a", 6000, "x"), site.Link("/a", "/d/a"))
	b.opens("/a", mRead, 1, api.OK)
	b.opens("/l", mRead+mWrite, 2, api.OK)
	k.opens("/d/a", mWrite+mAppend, 1, api.OK)
	node, e := b.f.Hold("/a")
	trial.Is(t, "Hold", e, api.OK)
	b.all(site.Unlink("/d/a"), site.Unlink("/a"))
	same, freed := b.left(0, 0), b.left(3, 1)
	b.closes(2, api.OK)
	k.closes(1, api.OK)
	same()
	b.reads(1, 5, "hello", api.OK)
	b.closes(1, api.OK)
	same()
	b.held(2)
	trial.Is(t, "Release", b.f.Release(node), api.OK)
	freed()
	b.opens("/new", mRead+mCreate, 1, api.OK)
	b.stats(1, api.Stat{Node: 2, Kind: api.KFile, Links: 1}, api.OK)
}

// Close frees in the order that comes: whichever handle is the last one.
func TestP1407Any(t *testing.T) {
	for last := 1; last <= 3; last++ {
		b := planted(t)
		for h, mode := range []int{mRead, mWrite, mWrite + mAppend} {
			b.opens("/a", mode, h+1, api.OK)
		}
		b.all(site.Unlink("/a"))
		same, freed := b.left(0, 0), b.left(1, 1)
		for h := 1; h <= 3; h++ {
			if h != last {
				b.closes(h, api.OK)
				same()
			}
		}
		b.closes(last, api.OK)
		freed()
	}
}

// Close writes nothing, but where a file goes with it; what Release answers is its answer.
func TestP1407Release(t *testing.T) {
	b := planted(t)
	b.opens("/a", mRead, 1, api.OK)
	b.opens("/a", mRead, 2, api.OK)
	b.opens("/d/b", mRead, 3, api.OK)
	b.opens("/a", mRead, 4, api.OK)
	writes := func(want bool, h int) {
		t.Helper()
		was := b.d.Counts()
		b.closes(h, api.OK)
		if now := b.d.Counts(); (now.Writes > was.Writes) != want {
			t.Errorf("P1407: Close(%d): %+v, before %+v", h, now, was)
		}
	}
	writes(false, 3)
	writes(false, 1)
	b.all(site.Unlink("/a"))
	writes(false, 2)
	writes(true, 4)
	b.opens("/d/b", mRead, 1, api.OK)
	b.opens("/d/b", mRead+mWrite+mAppend, 2, api.OK)
	for range 2 {
		trial.Is(t, "Release beside the desk", b.f.Release(4), api.OK)
	}
	b.reads(1, 1, "", api.ErrNotHeld)
	b.seeks(1, 1, 2, 0, api.ErrNotHeld)
	b.writes(2, "x", 0, api.ErrNotHeld)
	b.stats(1, api.Stat{}, api.ErrNotHeld)
	b.stands(1, 0)
	b.closes(1, api.ErrNotHeld)
	b.closes(1, api.ErrHandle)
}

// The file keeps its bytes whatever becomes of its names, and so does the handle its place.
func TestP1408Names(t *testing.T) {
	b := planted(t)
	b.opens("/a", mRead+mWrite, 1, api.OK)
	b.reads(1, 1, "h", api.OK)
	b.all(site.Rename("/a", "/z"), site.Create("/a"), site.Write("/a", 0, "other"))
	b.reads(1, 1, "e", api.OK)
	b.all(site.Link("/z", "/d/z"), site.Unlink("/z"), site.Mkdir("/z"), site.Rename("/d/z", "/z/z"))
	b.reads(1, 1, "l", api.OK)
	b.writes(1, "L", 1, api.OK)
	b.holds("/z/z", "helLo")
	b.all(site.Rename("/a", "/z/z")) // its last name leads to another file from here on
	b.holds("/z/z", "other")
	b.reads(1, 1, "o", api.OK)
	b.writes(1, "!", 1, api.OK)
	b.seeks(1, 0, 0, 0, api.OK)
	b.reads(1, 9, "helLo!", api.OK)
	b.holds("/z/z", "other")
	b.opens("/z/z", mRead, 2, api.OK)
	b.reads(2, 9, "other", api.OK)
	b.stats(1, api.Stat{Node: 2, Kind: api.KFile, Size: 6, Owned: 1}, api.OK)
	freed := b.left(1, 1)
	b.closes(1, api.OK)
	freed()
}

// The number of an open file is given to no other, and its blocks neither, however many are made.
func TestP1408Number(t *testing.T) {
	b := planted(t)
	b.opens("/a", mRead, 1, api.OK)
	b.all(site.Unlink("/a"))
	for i := 0; ; i++ {
		path := "/d/" + strconv.Itoa(i)
		r := b.f.Do(site.Create(path))
		if r.Err == api.ErrNoNodes {
			break
		}
		trial.Is(t, "Create", r.Err, api.OK)
		if s := b.f.Do(api.Op{Kind: api.OpStat, Path: path}).Stat; s.Node == 2 {
			t.Fatalf("P1408: %s has the number of an open file", path)
		}
		b.f.Do(site.Write(path, 0, string(make([]byte, 3000))))
	}
	for at := 0; b.f.Do(site.Write("/d/b", at, "x")).Err == api.OK; at += 512 {
	}
	b.room(0, 0)
	b.reads(1, 9, "hello", api.OK)
	b.closes(1, api.OK)
	b.opens("/d/new", mRead+mCreate, 1, api.OK)
	b.stats(1, api.Stat{Node: 2, Kind: api.KFile, Links: 1}, api.OK)
}

// What is written by one is read by all.
func TestP1408Shared(t *testing.T) {
	b := planted(t)
	k := b.beside()
	b.opens("/a", mRead+mWrite, 1, api.OK)
	b.opens("/a", mRead, 2, api.OK)
	k.opens("/l", mRead+mWrite+mAppend, 1, api.OK)
	k.writes(1, " there", 6, api.OK)
	b.reads(2, 99, "hello there", api.OK)
	b.writes(1, "H", 1, api.OK)
	b.holds("/l", "Hello there")
	k.seeks(1, 0, 0, 0, api.OK)
	k.reads(1, 5, "Hello", api.OK)
	b.all(site.Write("/a", 6, "T"))
	k.reads(1, 9, " There", api.OK)
	b.stands(1, 1)
	b.stands(2, 11)
	b.all(site.Unlink("/a"))
	k.writes(1, ".", 1, api.OK)
	b.reads(2, 9, ".", api.OK)
	k.closes(1, api.OK)
	b.reads(1, 99, "ello There.", api.OK)
}

// ends are ways to end the life of a desk, each with the file system that comes then.
func ends() map[string]func(b *bench) {
	return map[string]func(b *bench){
		"a power cut":              func(b *bench) { b.d.Crash(nil) },
		"a cut that keeps all":     func(b *bench) { b.d.Crash([]api.Pick{trial.Keep()}) },
		"a burnt disk":             func(b *bench) { b.d.Fuse(0) },
		"a burnt disk, then a cut": func(b *bench) { b.d.Fuse(0); b.k.Stat(1); b.d.Crash(nil) },
		"a new mount":              func(b *bench) { site.Mounted(b.t, b.d) },
	}
}

// A dead desk answers ErrDead, ahead of all else that is wrong, asks the disk for nothing, and does not come back.
func TestP5(t *testing.T) {
	for what, end := range ends() {
		b := planted(t)
		b.opens("/a", mRead, 1, api.OK)
		b.opens("/a", mRead+mWrite, 2, api.OK)
		b.opens("/a", mWrite+mAppend, 3, api.OK)
		trial.Is(t, "Sync", b.f.Sync(), api.OK)
		end(b)
		dead := func() {
			t.Helper()
			was, life := b.d.Counts(), b.d.Life()
			for _, h := range []int{1, 2, 3, 4, 0, 17, -1} {
				for _, a := range answersOf(b.k, h) {
					trial.Is(t, what+": "+a.what, a.e, api.ErrDead)
				}
				b.reads(h, -1, "", api.ErrDead)
				b.reads(h, 65537, "", api.ErrDead)
				b.reads(h, 0, "", api.ErrDead)
				b.writes(h, "", 0, api.ErrDead)
				b.writes(h, string(make([]byte, 65537)), 0, api.ErrDead)
				b.seeks(h, 0, 1, 0, api.ErrDead)
				b.seeks(h, 0, 2, 0, api.ErrDead)
				b.seeks(h, -1, 9, 0, api.ErrDead)
			}
			for _, mode := range []int{mRead, mRead + mCreate, mWrite + mCreate + mFresh, mWrite + mEmpty, 0, 64} {
				for _, path := range []string{"/a", "/new", "", "/"} {
					b.opens(path, mode, 0, api.ErrDead)
				}
			}
			if b.d.Counts() != was || b.d.Life() != life {
				t.Fatalf("%s: a dead desk asks the disk: %+v, before %+v", what, b.d.Counts(), was)
			}
		}
		dead()
		b.d.Crash(nil)
		anew := onDisk(t, b.d)
		dead()
		anew.holds("/a", "hello")
		anew.there("/new", false)
	}
}

// Behind a power cut or a new mount no handle is open, and a file without a name is gone.
func TestP1408Gone(t *testing.T) {
	for what, end := range ends() {
		b := planted(t)
		blocks, nodes, _ := b.f.Space()
		b.opens("/a", mRead+mWrite, 1, api.OK)
		b.opens("/d/b", mRead+mWrite, 2, api.OK)
		b.writes(1, "J", 1, api.OK)
		b.all(site.Unlink("/a"))
		trial.Is(t, "Sync", b.f.Sync(), api.OK)
		end(b)
		if b.d.Burnt() {
			b.d.Crash(nil)
		}
		b.f = site.Mounted(t, b.d)
		b = b.beside()
		for h := range 18 {
			for _, a := range answersOf(b.k, h) {
				trial.Is(t, what+": "+a.what, a.e, api.ErrHandle)
			}
		}
		b.held()
		b.room(blocks+1, nodes+1)
		b.opens("/a", mRead, 0, api.ErrNotFound)
		b.opens("/d/b", mRead, 1, api.OK)
	}
}
