package fs_test

import (
	"bytes"
	"strings"
	"testing"

	"vellum/api"
	"vellum/disk"
	"vellum/fs"
	"vellum/seal"
	"vellum/site"
	"vellum/trial"
	"vellum/walk"
)

// DOC.md's ten examples of the whole.
func TestExamples(t *testing.T) {
	p := paired(t, api.Super{Sectors: 64, Log: 18, Nodes: 4})
	room := func(blocks, nodes int) {
		t.Helper()
		if b, n, e := p.f.Space(); b != blocks || n != nodes || e != api.OK {
			t.Fatalf("P1324: Space %d, %d, %v, want %d, %d", b, n, e, blocks, nodes)
		}
	}
	room(40, 3)
	p.all(site.Create("/a"))
	room(39, 2)
	if r := p.does(site.Write("/a", 0, "hello"), api.OK); r.N != 5 {
		t.Errorf("P1315: N %d", r.N)
	}
	if r := p.does(site.Stat("/a"), api.OK); r.Stat != (api.Stat{Node: 2, Kind: 1, Links: 1, Size: 5, Owned: 1}) {
		t.Errorf("P1318: %+v", r.Stat)
	}
	p.all(site.Write("/a", 6000, "x"))
	if r := p.does(site.Stat("/a"), api.OK); r.Stat != (api.Stat{Node: 2, Kind: 1, Links: 1, Size: 6001, Owned: 3}) {
		t.Errorf("P1318: %+v", r.Stat)
	}
	if r := p.does(site.Runs("/a"), api.OK); r.N != 2 || r.Runs[0] != (api.Run{From: 0, To: 1}) || r.Runs[1] != (api.Run{From: 11, To: 12}) {
		t.Errorf("P1322: %+v", r)
	}
	room(36, 2)
	if r := p.does(site.Read("/a", 3, 5), api.OK); string(r.Data) != "lo\x00\x00\x00" || r.N != 5 {
		t.Errorf("P1314: %q, %d", r.Data, r.N)
	}
	p.all(site.Truncate("/a", 2), site.Truncate("/a", 4))
	if r := p.does(site.Read("/a", 0, 100), api.OK); string(r.Data) != "he\x00\x00" {
		t.Errorf("P1316: %q", r.Data)
	}
	p.all(site.Mkdir("/d"), site.Rename("/a", "/d/b"), site.Symlink("/l", "d/b"))
	if r := p.does(site.Read("/l", 0, 2), api.OK); string(r.Data) != "he" {
		t.Errorf("P1305: %q", r.Data)
	}
	room(36, 0)
	p.does(site.Create("/e"), api.ErrNoNodes)
	is(t, "Sync", p.f.Sync(), api.OK)
	was := p.m.clone()
	p.all(site.Unlink("/l"))
	p.d.Crash(nil)
	is(t, "P5: a dead one", p.f.Do(site.Stat("/")).Err, api.ErrDead)
	p.m = was
	p.again()
	p.all(site.Unlink("/l"))
	p.d.Crash([]api.Pick{trial.Keep()})
	p.again()
	p.answers([]answer{{site.Lstat("/l"), api.ErrNotFound}, {site.Rename("/d", "/d/x"), api.ErrInside}, {site.Rmdir("/d"), api.ErrNotEmpty}, {site.Link("/d", "/f"), api.ErrIsDir}, {site.Unlink("/"), api.ErrPath}})
	is(t, "Sync", p.f.Sync(), api.OK)
	image := p.d.Image()
	image[9] ^= 4
	_, e := fs.Mount(site.Loaded(t, image))
	is(t, "P1302: a bit of the superblock", e, api.ErrCorrupt)
}

func TestP1301Refused(t *testing.T) {
	p := paired(t, api.Super{Sectors: 300, Log: 18, Nodes: 4})
	image := p.d.Image()
	for _, c := range [][2]int{{17, 4}, {0, 4}, {-1, 4}, {257, 4}, {18, 0}, {18, 3}, {18, 5}, {18, -4}, {18, 1028}, {256, 156}, {1 << 62, 1 << 62}, {-1 << 63, -1 << 63}} {
		is(t, "P1301", fs.Mkfs(p.d, c[0], c[1]), api.ErrGeometry)
	}
	if !bytes.Equal(p.d.Image(), image) || p.d.Counts().Pending != 0 {
		t.Error("P1301: a Mkfs that was refused has written")
	}
	p.all(site.Create("/a")) // it lives on
	for _, sectors := range []int{1, 24} {
		d, _ := disk.New(sectors)
		is(t, "P1301: a disk too small", fs.Mkfs(d, 18, 4), api.ErrGeometry)
		_, e := fs.Mount(d)
		is(t, "P1302: zeros", e, api.ErrCorrupt)
	}
	p.d.Fuse(0)
	is(t, "P1301: burnt", fs.Mkfs(p.d, 18, 4), api.ErrDead)
	is(t, "P1301: burnt", fs.Mkfs(p.d, 0, 0), api.ErrDead)
}

// Mkfs makes just the writes and flushes of the calls that it is made of.
func TestP1301(t *testing.T) {
	for _, form := range []api.Super{{Sectors: 25, Log: 18, Nodes: 4}, {Sectors: 26, Log: 18, Nodes: 8}, small, wide, {Sectors: 2048, Log: 256, Nodes: 1024}} {
		d := site.Made(t, form)
		twin := trial.Formatted(t, form)
		s := trial.Opened(t, twin)
		w := on(trial.Begun(t, s))
		is(t, "Clear", w.Clear(), api.OK)
		k, e := w.Make(api.KDir, 1)
		if is(t, "Make", e, api.OK); k != 1 {
			t.Fatalf("Make: %d", k)
		}
		is(t, "Commit", w.Commit(), api.OK)
		is(t, "Checkpoint", s.Checkpoint(), api.OK)
		sameDisks(t, "P1301", d, twin)
		p := &pair{t, d, site.Mounted(t, d), newModel(form.Sectors-form.Log-5-form.Nodes/4, form.Nodes)}
		p.tree()
		if r := p.does(site.Stat("/.."), api.OK); r.Stat != (api.Stat{Node: 1, Kind: api.KDir, Links: 2}) {
			t.Errorf("P1301: the root is %+v", r.Stat)
		}
		p.all(site.Create("/a"))
		is(t, "P1301: Mkfs", fs.Mkfs(d, 18, 4), api.OK)
		is(t, "P1301: what was mounted before", p.f.Do(site.Stat("/")).Err, api.ErrDead)
		(&pair{t, d, site.Mounted(t, d), newModel(form.Sectors-18-6, 4)}).tree()
	}
}

// sameDisks asks that two disks hold the same, and were asked for the same writes and flushes.
func sameDisks(t *testing.T, what string, a, b *disk.Disk) {
	t.Helper()
	if !bytes.Equal(a.Image(), b.Image()) {
		t.Fatalf("%s: the images differ", what)
	}
	x, y := a.Counts(), b.Counts()
	if x.Writes != y.Writes || x.Flushes != y.Flushes || x.Pending != y.Pending || x.Refused != y.Refused {
		t.Fatalf("%s: %+v, want %+v", what, x, y)
	}
}

// Each write and flush of a Mkfs may be the first that is refused; the one behind which all is done may be the last that is let through.
func TestP1301Dead(t *testing.T) {
	d := site.Made(t, small)
	c := d.Counts()
	total := c.Writes + c.Flushes
	for fuse := range total + 1 {
		d, _ := disk.New(small.Sectors)
		d.Fuse(fuse)
		want := api.ErrDead
		if fuse == total {
			want = api.OK
		}
		is(t, "P1301", fs.Mkfs(d, small.Log, small.Nodes), want)
	}
}

// A Mount answers nothing but its error where there is no file system.
func TestP1302Refused(t *testing.T) {
	p := paired(t, small)
	p.all(site.Create("/a"), site.Write("/a", 0, "text"), site.Symlink("/l", "a"), site.Mkdir("/d"), site.Create("/d/x"))
	is(t, "Checkpoint", p.f.Checkpoint(), api.OK)
	image := p.d.Image()
	broken := func(what string, want api.Errno, by func(image []byte)) {
		t.Helper()
		image := bytes.Clone(image)
		by(image)
		d := site.Loaded(t, image)
		f, e := fs.Mount(d)
		if e != want || f != nil {
			t.Errorf("P1302: %s: %v, %v, want %v", what, f, e, want)
		}
		if c := d.Counts(); c.Refused != 0 {
			t.Errorf("P1303: %s: %+v", what, c)
		}
	}
	broken("all zero", api.ErrCorrupt, func(image []byte) { clear(image) })
	broken("no superblock", api.ErrCorrupt, func(image []byte) { clear(image[:512]) })
	broken("no anchors", api.ErrCorrupt, func(image []byte) { clear(image[512:1536]) })
	broken("the home zero", api.ErrCorrupt, func(image []byte) { clear(image[21*512:]) })
	broken("the last epoch", api.ErrWorn, func(image []byte) {
		slot, sector, e := seal.Renew(image[512:1024], image[1024:1536], 1<<62, nil)
		is(t, "Renew", e, api.OK)
		copy(image[512+512*slot:], sector)
	})
	d := site.Loaded(t, image)
	d.Fuse(0)
	f, e := fs.Mount(d)
	if e != api.ErrDead || f != nil {
		t.Errorf("P1302: burnt: %v, %v", f, e)
	}
	faulty := func(what string, phase int, by func(w *walk.Walk)) {
		t.Helper()
		d := site.Loaded(t, image)
		s := trial.Opened(t, d)
		w := on(trial.Begun(t, s))
		by(w)
		is(t, what, w.Commit(), api.OK)
		if phase%2 == 0 { // the log may hold it, or its home
			is(t, what, s.Checkpoint(), api.OK)
		}
		f, e := fs.Mount(d)
		if e != api.ErrCorrupt || f != nil {
			t.Errorf("P1302: %s: %v, %v", what, f, e)
		}
	}
	change := func(w *walk.Walk, k int, by func(n *api.Node)) {
		t.Helper()
		n, e := w.Load(k)
		is(t, "Load", e, api.OK)
		by(&n)
		is(t, "Save", w.Save(k, n), api.OK)
	}
	faulty("a broken slot", 1, func(w *walk.Walk) { is(t, "Put", w.Put(3, trial.Fill(1)), api.OK) })
	faulty("a wrong count of blocks", 2, func(w *walk.Walk) { change(w, 2, func(n *api.Node) { n.Owned = 2 }) })
	faulty("a block taken", 3, func(w *walk.Walk) { w.TakeBlock() })
	faulty("a node's number taken", 3, func(w *walk.Walk) { w.TakeNode() })
	faulty("an entry of none", 4, func(w *walk.Walk) { is(t, "Add", w.Add(1, "n", 7, api.KFile), api.OK) })
	faulty("a wrong count of links", 5, func(w *walk.Walk) { change(w, 2, func(n *api.Node) { n.Links = 2 }) })
	faulty("a directory in a wrong parent", 5, func(w *walk.Walk) { change(w, 4, func(n *api.Node) { n.Parent = 4 }) })
}

// littered is a disk with orphans, at whose Mount each is freed.
func littered(t *testing.T, form api.Super, orphans, size int) *pair {
	t.Helper()
	p := paired(t, form)
	for range orphans {
		is(t, "create", p.f.Do(site.Create("/o")).Err, api.OK)
		if size > 0 {
			is(t, "write", p.f.Do(site.Write("/o", size, "x")).Err, api.OK)
			is(t, "write", p.f.Do(site.Write("/o", 0, strings.Repeat("y", size%5000))).Err, api.OK)
		}
		_, e := p.f.Hold("/o")
		is(t, "Hold", e, api.OK)
		is(t, "unlink", p.f.Do(site.Unlink("/o")).Err, api.OK)
	}
	is(t, "Sync", p.f.Sync(), api.OK)
	p.m = modelOf(t, p.d.Image())
	return p
}

// Mount makes just the writes and flushes of the calls that it is made of: each orphan goes in a step of its own, the lowest first.
func TestP1302Orphans(t *testing.T) {
	for _, orphans := range []int{0, 1, 2, 6} {
		p := littered(t, api.Super{Sectors: 120, Log: 19, Nodes: 12}, orphans, 5200)
		p.all(site.Create("/z"), site.Write("/z", 0, "stays"))
		for _, synced := range []bool{false, true} {
			if synced {
				is(t, "Sync", p.f.Sync(), api.OK)
			}
			d, twin := site.Loaded(t, p.d.Image()), site.Loaded(t, p.d.Image())
			f := site.Mounted(t, d)
			s := trial.Opened(t, twin)
			for k := range orphans {
				w := on(trial.Begun(t, s))
				is(t, "Cut", w.Cut(2+k, 0), api.OK)
				is(t, "Free", w.Free(2+k), api.OK)
				is(t, "Commit", w.Commit(), api.OK)
			}
			is(t, "Sync", s.Sync(), api.OK)
			sameDisks(t, "P1302", d, twin)
			if synced {
				p.m.drop()
				(&pair{t, d, f, p.m}).tree()
			}
		}
	}
}

// Without a cut all steps are there, synced or not; but nothing is held.
func TestP1302Again(t *testing.T) {
	p := paired(t, small)
	p.all(site.Create("/a"), site.Write("/a", 0, "text"), site.Create("/b"))
	a, b := p.hold("/a", api.OK), p.hold("/b", api.OK)
	p.all(site.Unlink("/b"), by(b, site.Write("", 0, "held")))
	old := p.f
	p.again()
	is(t, "P1302: what was mounted before", old.Do(site.Stat("/")).Err, api.ErrDead)
	p.does(by(a, site.Stat("")), api.ErrNotHeld)
	p.does(by(b, site.Stat("")), api.ErrNotHeld)
	p.release(a, api.ErrNotHeld)
	p.release(b, api.ErrNotHeld)
	p.again()
	if c := p.d.Counts(); c.Pending != 0 {
		t.Errorf("P1302: %+v", c)
	}
}

// Every call of a dead file system is refused, ahead of all else, and asks the disk for nothing.
func TestP5Dead(t *testing.T) {
	for what, end := range map[string]func(d *disk.Disk){
		"cut":        func(d *disk.Disk) { d.Crash(nil) },
		"mounted":    func(d *disk.Disk) { fs.Mount(d) },
		"made anew":  func(d *disk.Disk) { fs.Mkfs(d, 18, 4) },
		"burnt":      func(d *disk.Disk) { d.Fuse(0) },
		"burnt, cut": func(d *disk.Disk) { d.Fuse(0); d.Crash(nil) },
		"taken":      func(d *disk.Disk) { d.Take() },
	} {
		p := paired(t, small)
		p.all(site.Create("/a"), site.Create("/b"), site.Mkdir("/d"))
		k := p.hold("/a", api.OK)
		p.all(site.Unlink("/a"))
		end(p.d)
		was := p.d.Counts()
		for kind := -1; kind <= 17; kind++ {
			for _, op := range []api.Op{{Kind: kind}, {Kind: kind, Path: "/b", Other: "/c"}, {Kind: kind, Node: k, Data: []byte("x")}, {Kind: kind, Path: "/d", Off: -1, N: -1}} {
				if r := p.f.Do(op); !same(r, api.Reply{Err: api.ErrDead}) {
					t.Errorf("P5: %s: %+v: %+v", what, op, r)
				}
			}
		}
		for _, path := range []string{"/b", "", "/none", "/"} {
			if k, e := p.f.Hold(path); k != 0 || e != api.ErrDead {
				t.Errorf("P5: %s: Hold: %d, %v", what, k, e)
			}
		}
		for _, k := range []int{k, 1, 0, -1} {
			is(t, what+": Release", p.f.Release(k), api.ErrDead)
		}
		if b, n, e := p.f.Space(); b != 0 || n != 0 || e != api.ErrDead {
			t.Errorf("P5: %s: Space: %d, %d, %v", what, b, n, e)
		}
		is(t, what+": Sync", p.f.Sync(), api.ErrDead)
		is(t, what+": Checkpoint", p.f.Checkpoint(), api.ErrDead)
		for _, workers := range []int{0, 1, 9} {
			if r, e := p.f.Check(workers); r.Faults != nil || r.Dirs != 0 || e != api.ErrDead {
				t.Errorf("P5: %s: Check: %+v, %v", what, r, e)
			}
		}
		if now := p.d.Counts(); now != was {
			t.Errorf("P5: %s: %+v, before %+v", what, now, was)
		}
	}
}
