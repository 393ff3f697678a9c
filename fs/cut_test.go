package fs_test

import (
	"strconv"
	"strings"
	"testing"

	"vellum/api"
	"vellum/disk"
	"vellum/fs"
	"vellum/site"
	"vellum/trial"
)

// grown is a player on a small tree that is durable.
func grown(t *testing.T, form api.Super) *player {
	t.Helper()
	p := newPlayer(paired(t, form))
	p.all(site.Create("/a"), site.Write("/a", 0, "one"), site.Mkdir("/d"), site.Create("/d/b"), site.Symlink("/l", "d/b"), site.Write("/l", 500, strings.Repeat("two", 10)))
	p.forget()
	if !p.play(call{what: doesCheckpoint}) {
		t.Fatal("dead without a fuse")
	}
	return p
}

// everyCut plays the calls up to each write and flush of theirs, and cuts the power there, with many picks.
func everyCut(t *testing.T, begin *player, calls []call) {
	t.Helper()
	whole := begin.copied(t)
	was := whole.d.Counts()
	if !whole.row(calls) {
		t.Fatal("dead without a fuse")
	}
	now := whole.d.Counts()
	total := now.Writes - was.Writes + now.Flushes - was.Flushes
	if total < 40 {
		t.Errorf("%d calls are few", total)
	}
	for part := range 8 {
		t.Run("", func(t *testing.T) {
			t.Parallel()
			for fuse := part; fuse <= total; fuse += 8 {
				for _, picks := range trial.Picks() {
					cutAt(t, begin, calls, fuse, picks)
				}
			}
		})
	}
}

// cutAt cuts the power behind so many writes and flushes, and goes on from the tree that is there then: nothing else may come back.
func cutAt(t *testing.T, begin *player, calls []call, fuse int, picks []api.Pick) {
	t.Helper()
	p := begin.copied(t)
	p.d.Fuse(fuse)
	p.row(calls)
	p.crash(picks)
	if !p.row(append(ops(site.Mkdir("/anew"), site.Write("/a", 100, "anew")), call{what: doesSync})) {
		t.Fatal("dead without a fuse")
	}
	p.crash(nil)
}

// What is done with names, so much of it that the log of 18 sectors is filled again and again.
func TestP1326Names(t *testing.T) {
	t.Parallel()
	calls := ops(site.Create("/n"), site.Link("/a", "/d/a"), site.Rename("/d/b", "/n"), site.Mkdir("/d/e"), site.Symlink("/d/e/s", "../a"), site.Unlink("/l"))
	calls = append(calls, call{what: doesSync})
	calls = append(calls, ops(site.Rename("/d/e", "/e"), site.Unlink("/a"), site.Mkdir("/d/f"), site.Rename("/e", "/d/f"), site.Unlink("/d/f/s"), site.Rmdir("/d/f"))...)
	everyCut(t, grown(t, small), calls)
}

// What is done with bytes: the first write has three pieces.
func TestP1326Bytes(t *testing.T) {
	t.Parallel()
	big := strings.Repeat("0123456789", 900)
	calls := ops(site.Write("/a", 4000, big), site.Truncate("/a", 600), site.Punch("/a", 2, 400), site.Write("/d/b", 0, "x"))
	calls = append(calls, call{what: doesCheckpoint})
	calls = append(calls, ops(site.Truncate("/a", 9000), site.Punch("/a", 0, 9000), site.Write("/a", 70000, "far"), site.Unlink("/a"))...)
	everyCut(t, grown(t, small), calls)
}

// Each piece of a Write is a step: where nothing that was written is lost, just those are there whose writes were all let through.
func TestP1326Pieces(t *testing.T) {
	p := newPlayer(paired(t, api.Super{Sectors: 400, Log: 200, Nodes: 4}))
	p.all(site.Create("/a"), site.Write("/a", 0, "old"))
	is(t, "Sync", p.f.Sync(), api.OK)
	op := site.Write("/a", 1000, strings.Repeat("0123456789", 1500))
	_, trees := p.m.do(op)
	var ends []int // how many writes there are up to the end of each piece
	dry := p.copied(t)
	for at := 0; at < len(op.Data); {
		end := min(len(op.Data), at+4096-(op.Off+at)%4096)
		was := dry.d.Counts().Writes
		dry.all(site.Write("/a", op.Off+at, string(op.Data[at:end])))
		ends, at = append(ends, dry.d.Counts().Writes-was), end
	}
	if len(ends) != 4 || len(trees) != 4 {
		t.Fatalf("P1315: %d pieces, the model says %d", len(ends), len(trees))
	}
	for fuse, whole, left := 0, 0, ends[0]; whole < 4; fuse++ {
		if fuse == left {
			if whole++; whole < 4 {
				left += ends[whole]
			}
		}
		q := p.copied(t)
		q.d.Fuse(fuse)
		want := api.Reply{Err: api.ErrDead}
		if whole == 4 {
			want = api.Reply{N: len(op.Data)}
		}
		if r := q.f.Do(op); !same(r, want) {
			t.Fatalf("P1304: behind %d writes: %s, want %s", fuse, says(r), says(want))
		}
		q.states = append([]*model{p.m}, trees...)[whole : whole+1]
		q.crash([]api.Pick{trial.Keep()})
	}
}

// Orphans: held ones, one that is released, and Mounts on the way, without a cut.
func TestP1326Holds(t *testing.T) {
	t.Parallel()
	calls := []call{{what: doesHold, Op: site.Stat("/a")}, {what: doesHold, Op: site.Stat("/d/b")}, {Op: site.Unlink("/a")}, {Op: site.Unlink("/d/b")}, {what: doesSync},
		{Op: by(2, site.Write("", 0, "three"))}, {what: doesRelease, Op: api.Op{Node: 2}}, {Op: site.Create("/a")}, {what: doesMount}, {Op: site.Write("/a", 0, "four")}, {what: doesMount}}
	everyCut(t, grown(t, small), calls)
}

// A Mount that frees orphans is cut at each of its writes and flushes, again and again: what it shows at last is what it would have shown at once.
func TestP1302Cut(t *testing.T) {
	t.Parallel()
	p := newPlayer(paired(t, api.Super{Sectors: 80, Log: 18, Nodes: 12}))
	for k := range 6 {
		path := "/" + strconv.Itoa(k)
		p.all(site.Create(path), site.Write(path, 5000*k, "orphan"))
		p.hold(path, api.OK)
	}
	p.all(site.Write("/3", 70000, "x"))
	for _, k := range []string{"/5", "/0", "/3", "/1"} {
		p.all(site.Unlink(k))
	}
	is(t, "Sync", p.f.Sync(), api.OK)
	image := p.d.Image()
	p.m.drop()
	want := treeOf(p.m.once)
	refused := 0
	for _, picks := range trial.Picks() {
		for fuse := 0; ; fuse++ {
			d := site.Loaded(t, image)
			d.Fuse(fuse)
			f, e := fs.Mount(d)
			if e != api.OK {
				is(t, "P1302: Mount cut", e, api.ErrDead)
				if f != nil || !d.Burnt() {
					t.Fatalf("P1302: %v, burnt %v", f, d.Burnt())
				}
				refused++
			}
			d.Crash(picks)
			q := &pair{t, d, site.Mounted(t, d), p.m}
			if got := treeOf(q.f.Do); got != want {
				t.Fatalf("P1326: a Mount cut behind %d calls with %v: the tree is then\n%q, want\n%q", fuse, picks, got, want)
			}
			q.tree()
			if e == api.OK {
				break
			}
		}
	}
	if refused < 300 {
		t.Errorf("%d Mounts cut are few", refused)
	}
}

// A Mkfs that is cut leaves what was there, as a cut ahead of it might have; or nothing that can be mounted; or the new, empty one.
func TestP1301Cut(t *testing.T) {
	t.Parallel()
	anew := api.Super{Sectors: 64, Log: 20, Nodes: 4}
	empty := newModel(64-3-20-3, 4)
	var was, corrupt, fresh int
	cut := func(begin func() *player, calls int, picks []api.Pick) (api.Errno, []byte) {
		p := begin()
		p.d.Fuse(calls)
		e := fs.Mkfs(p.d, anew.Log, anew.Nodes)
		p.alive("Mkfs", e, calls == 0)
		p.d.Crash(picks)
		image := p.d.Image()
		f, mountE := fs.Mount(p.d)
		switch {
		case mountE == api.ErrCorrupt:
			corrupt++
		case mountE != api.OK:
			t.Fatalf("P1301: Mount behind a Mkfs that was cut: %v", mountE)
		case treeOf(f.Do) == treeOf(empty.once):
			fresh++
			(&pair{t, p.d, f, empty}).tree()
		default:
			was++
			p.settle(f)
		}
		return e, image
	}
	full := grown(t, small)
	pending := func() *player {
		p := full.copied(t)
		p.row(append(ops(site.Create("/m"), site.Unlink("/a")), call{what: doesSync}, call{Op: site.Mkdir("/o")}, call{Op: site.Rename("/d", "/o/d")}))
		return p
	}
	blank := func() *player {
		d, _ := disk.New(64)
		return &player{pair: &pair{t: t, d: d}}
	}
	var pieces [][]byte // images whose sector 0 holds a piece of a superblock, as such a Mkfs leaves it
	for _, begin := range []func() *player{pending, blank} {
		for calls := 0; ; calls++ {
			var e api.Errno
			for i, picks := range trial.Picks() {
				var image []byte
				e, image = cut(begin, calls, picks)
				if calls%17 == i && strings.Trim(string(image[:512]), "\x00") != "" {
					pieces = append(pieces, image)
				}
			}
			if e == api.OK {
				break
			}
		}
	}
	torn := 0
	for _, image := range pieces {
		if _, e := fs.Mount(site.Loaded(t, image)); e != api.ErrCorrupt {
			continue
		}
		torn++
		for calls := 0; calls < 150; calls += 1 + calls/3 {
			cut(func() *player { return &player{pair: &pair{t: t, d: site.Loaded(t, image)}} }, calls, []api.Pick{trial.Tear(100 + calls)})
		}
	}
	if was < 10 || corrupt < 500 || fresh < 20 || torn < 2 {
		t.Errorf("P1301: as before %d, refused %d, empty %d, pieces %d", was, corrupt, fresh, torn)
	}
}

// Do, Hold and Release flush for want of room in the log alone: none of them does where each step has 17 sectors.
func TestP1327(t *testing.T) {
	t.Parallel()
	for _, log := range []int{18, 34, 101} {
		p := newPlayer(paired(t, api.Super{Sectors: 300, Log: log, Nodes: 40}))
		d := &drawer{trial.NewDice(1327), p}
		room, played := 0, 0
		for range 1200 {
			c := d.call()
			_, steps := p.m.do(c.Op)
			need := 17 * max(1, len(steps))
			if c.what == doesSync || c.what == doesCheckpoint || c.what == doesMount || need > log {
				continue
			}
			if room < need {
				is(t, "Checkpoint", p.f.Checkpoint(), api.OK)
				room = log
			}
			was := p.d.Counts()
			p.play(c)
			p.forget()
			now := p.d.Counts()
			if now.Flushes != was.Flushes {
				t.Fatalf("P1327: %s flushes, with %d sectors of the log free before", says(c), room)
			}
			room -= now.Writes - was.Writes
			played++
		}
		if played < 800 {
			t.Errorf("%d calls are few", played)
		}
		p.tree()
	}
}

// The first Log/17 steps behind a Checkpoint make no flush, however great they are.
func TestP1327Steps(t *testing.T) {
	t.Parallel()
	for _, log := range []int{18, 33, 34, 60, 85} {
		p := paired(t, api.Super{Sectors: 1200, Log: log, Nodes: 40})
		p.all(site.Create("/a"))
		dice := trial.NewDice(log)
		for round := range 6 {
			is(t, "Checkpoint", p.f.Checkpoint(), api.OK)
			was := p.d.Counts().Flushes
			for step := range log / 17 {
				at := round*4096*5 + step*4096
				p.does(api.Op{Kind: api.OpWrite, Path: "/a", Off: at, Data: dice.Bytes(4096)}, api.OK)
			}
			if now := p.d.Counts().Flushes; now != was {
				t.Fatalf("P1327: with a log of %d sectors %d flushes in %d steps", log, now-was, log/17)
			}
			is(t, "Sync", p.f.Sync(), api.OK)
			if now := p.d.Counts().Flushes; now != was+1 {
				t.Fatalf("P1327: Sync makes %d flushes", now-was)
			}
		}
	}
}

// Behind every call that makes all durable the image holds the tree, whole.
func TestP1328Drawn(t *testing.T) {
	t.Parallel()
	for seed, form := range forms() {
		p := newPlayer(paired(t, form))
		d := &drawer{trial.NewDice(1328 + seed), p}
		for range 120 {
			for range d.Below(12) {
				p.play(call{Op: d.op()})
			}
			if !p.play(call{what: trial.One(d.Dice, doesSync, doesCheckpoint, doesMount)}) {
				t.Fatal("dead without a fuse")
			}
			p.durable()
			if c := p.d.Counts(); c.Refused != 0 {
				t.Fatalf("P1303: %+v", c)
			}
			p.forget()
		}
	}
}
