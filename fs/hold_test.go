package fs_test

import (
	"math"
	"strings"
	"testing"

	"vellum/api"
	"vellum/site"
	"vellum/trial"
)

func TestP1323(t *testing.T) {
	p := planted(t)
	for path, want := range map[string]api.Errno{"": api.ErrPath, "a": api.ErrPath, strings.Repeat("/", 1024): api.ErrLong, "/\x00": api.ErrName, "/none": api.ErrNotFound, "/none/x": api.ErrNotFound, "/gone": api.ErrNotFound, "/": api.ErrIsDir, "/d": api.ErrIsDir, "/up": api.ErrIsDir, "/up/..": api.ErrIsDir, "/a/x": api.ErrNotDir, "/self": api.ErrLoop} {
		p.hold(path, want)
	}
	for _, k := range []int{0, 1, 2, 3, -1, 17, math.MaxInt, math.MinInt} {
		p.release(k, api.ErrNotHeld)
	}
	if k := p.hold("/a", api.OK); k != 2 {
		t.Errorf("P1323: node %d", k)
	}
	if k := p.hold("/l", api.OK); k != 4 {
		t.Errorf("P1323: node %d", k)
	}
	p.release(2, api.OK)
	p.release(2, api.ErrNotHeld)
	p.release(4, api.OK)
	p.release(4, api.ErrNotHeld)
	p.tree()
}

// A file without a name lives till it is released as often as it was held.
func TestP1323Orphans(t *testing.T) {
	p := planted(t)
	for range 3 {
		p.hold("/a", api.OK)
	}
	p.all(site.Link("/a", "/d/a"), site.Unlink("/a"), by(2, site.Read("", 0, 9)), site.Unlink("/d/a"))
	p.answers([]answer{{site.Stat("/a"), api.ErrNotFound}, {by(2, site.Stat("")), api.OK}, {by(2, site.Write("", 5000, "more")), api.OK}, {by(2, site.Truncate("", 5002)), api.OK}, {by(2, site.Punch("", 0, 600)), api.OK}, {by(2, site.Runs("")), api.OK}, {by(2, site.Read("", 4999, 9)), api.OK}})
	p.hold("/a", api.ErrNotFound)
	p.all(site.Create("/a"))
	p.stats("/a", api.Stat{Node: 10, Kind: api.KFile, Links: 1})
	p.release(2, api.OK)
	p.tree()
	p.release(2, api.OK)
	p.all(by(2, site.Stat("")))
	p.release(2, api.OK)
	p.does(by(2, site.Stat("")), api.ErrNotHeld)
	p.release(2, api.ErrNotHeld)
	p.all(site.Mkdir("/n"))
	p.stats("/n", api.Stat{Node: 2, Kind: api.KDir, Links: 2})
	p.tree()
	// one that has a name when it is released stays, also behind its last name's end
	p.hold("/d/b", api.OK)
	p.release(4, api.OK)
	p.all(site.Stat("/d/b"), site.Unlink("/d/b"))
	p.tree()
}

// Release writes nothing but where an orphan goes.
func TestP1323Writes(t *testing.T) {
	p := planted(t)
	p.hold("/a", api.OK)
	p.hold("/a", api.OK)
	p.hold("/d/b", api.OK)
	writes := func(want bool, do func()) {
		t.Helper()
		was := p.d.Counts()
		do()
		if now := p.d.Counts(); (now.Writes > was.Writes) != want || now.Flushes != was.Flushes {
			t.Errorf("P1323: %+v, before %+v", now, was)
		}
	}
	is(t, "Checkpoint", p.f.Checkpoint(), api.OK)
	writes(false, func() { p.hold("/a", api.OK) })
	writes(false, func() { p.release(4, api.OK) })
	writes(true, func() { p.all(site.Unlink("/a")) })
	writes(false, func() { p.release(2, api.OK) })
	writes(false, func() { p.release(2, api.OK) })
	is(t, "Checkpoint", p.f.Checkpoint(), api.OK)
	writes(true, func() { p.release(2, api.OK) })
	writes(false, func() { p.release(2, api.ErrNotHeld) })
}

// A Release whose step is cut off answers ErrDead; the orphan is gone at the next Mount at the latest.
func TestP1323Cut(t *testing.T) {
	for fuse := range 5 {
		p := newPlayer(planted(t))
		p.hold("/a", api.OK)
		p.all(site.Unlink("/a"))
		is(t, "Checkpoint", p.f.Checkpoint(), api.OK)
		p.forget()
		p.d.Fuse(fuse)
		want := api.ErrDead
		if fuse >= 4 { // two bitmaps and a block of the table: a record of four sectors
			want = api.OK
		}
		is(t, "P1323: Release", p.f.Release(2), want)
		p.crash(nil)
		p.does(by(2, site.Stat("")), api.ErrNotHeld)
	}
}

func TestP1324(t *testing.T) {
	p := planted(t)
	p.hold("/a", api.OK)
	p.all(site.Unlink("/a"))
	for _, workers := range []int{0, 9, -1, math.MaxInt, math.MinInt} {
		r, e := p.f.Check(workers)
		if is(t, "P1324: Check", e, api.ErrWorkers); r.Dirs != 0 || r.Faults != nil {
			t.Errorf("P1324: Check: %+v", r)
		}
	}
	was := p.d.Counts()
	for workers := range 8 {
		r, e := p.f.Check(workers + 1)
		is(t, "P1324: Check", e, api.OK)
		if r.Phase != 0 || r.Files != 1 || r.Orphans != 1 || r.Dirs != 3 || r.Links != 4 || r.Used != 7 {
			t.Errorf("P1324: Check: %+v", r)
		}
	}
	if now := p.d.Counts(); now.Writes != was.Writes || now.Flushes != was.Flushes {
		t.Errorf("P1324: Check writes: %+v, before %+v", now, was)
	}
	is(t, "P1324: Sync", p.f.Sync(), api.OK)
	if now := p.d.Counts(); now.Writes != was.Writes || now.Flushes != was.Flushes+1 || now.Pending != 0 {
		t.Errorf("P1324: Sync: %+v, before %+v", now, was)
	}
	p.all(site.Create("/n"), site.Write("/n", 0, "found at home"))
	is(t, "P1324: Checkpoint", p.f.Checkpoint(), api.OK)
	image := p.d.Image()
	if clear(image[3*512 : 21*512]); !strings.Contains(string(image[21*512:]), "found at home") {
		t.Error("P1324: behind Checkpoint not all is at home")
	}
	d := site.Loaded(t, image) // without the log
	p.m.drop()
	(&pair{t, d, site.Mounted(t, d), p.m}).tree()
}

// Check tells the faults of what is committed: of a file system that somebody wrote to beside it.
func TestP1324Faults(t *testing.T) {
	p := planted(t)
	is(t, "Checkpoint", p.f.Checkpoint(), api.OK)
	is(t, "Write", p.d.Write(3+18+1, trial.Fill(0xff)), api.OK) // the bitmap of the nodes
	r, e := p.f.Check(3)
	if e != api.OK || r.Phase != 3 || len(r.Faults) == 0 || r.Faults[0].Kind != api.FNodeBit || r.Dirs != 0 {
		t.Errorf("P1324: %s, %v", says(r), e)
	}
}
