package handle_test

import (
	"bytes"
	"math"
	"slices"
	"strings"
	"testing"

	"vellum/api"
	"vellum/disk"
	"vellum/fs"
	"vellum/handle"
	"vellum/site"
	"vellum/trial"
)

// twins are two file systems on which the same is done: at the one by desks, at the other by clerks. Their disks must be asked the same.
type twins struct {
	t      *testing.T
	disks  [2]*disk.Disk
	fs     [2]*fs.FS
	desks  []*handle.Desk
	clerks []*clerk
	seen   map[int]map[api.Errno]int // by what was done: what was answered
}

func newTwins(t *testing.T, form api.Super) *twins {
	t.Helper()
	w := &twins{t: t, seen: map[int]map[api.Errno]int{}}
	for what := range doesOp + 1 {
		w.seen[what] = map[api.Errno]int{}
	}
	for i := range w.disks {
		w.disks[i] = site.Made(t, form)
	}
	w.mount()
	return w
}

func (w *twins) mount() {
	w.t.Helper()
	w.desks, w.clerks = nil, nil
	for i, d := range w.disks {
		w.fs[i] = site.Mounted(w.t, d)
	}
	for range 3 {
		w.desks = append(w.desks, handle.New(w.fs[0]))
		w.clerks = append(w.clerks, &clerk{w.fs[1], map[int]hand{}})
	}
}

// play does a call at both; it tells whether it was refused for want of power.
func (w *twins) play(c call) bool {
	w.t.Helper()
	var got, want answer
	if c.what == doesOp {
		got.e, want.e = w.fs[0].Do(c.op).Err, w.fs[1].Do(c.op).Err
	} else {
		got, want = asked(w.desks[c.desk], c), w.clerks[c.desk].asked(c)
	}
	c.data, c.op.Data = nil, nil // they would fill the page
	if got != want {
		w.t.Fatalf("%+v: %.200q, want %.200q", c, []any{got}, []any{want})
	}
	if a, b := w.disks[0].Counts(), w.disks[1].Counts(); a != b || w.disks[0].Burnt() != w.disks[1].Burnt() {
		w.t.Fatalf("%+v: the disk was asked %+v, want %+v", c, a, b)
	}
	w.seen[c.what][got.e]++
	return got.e == api.ErrDead
}

// alike asks that the two disks hold the same.
func (w *twins) alike() {
	w.t.Helper()
	if !bytes.Equal(w.disks[0].Image(), w.disks[1].Image()) {
		w.t.Fatal("the disks are unlike")
	}
}

// crash cuts the power at both, and mounts anew.
func (w *twins) crash(picks []api.Pick) {
	w.t.Helper()
	for _, d := range w.disks {
		d.Crash(picks)
	}
	w.alike()
	w.mount()
}

func (w *twins) fuse(calls int) {
	for _, d := range w.disks {
		d.Fuse(calls)
	}
}

// drawer draws calls that mean something at the clerks, and some that do not.
type drawer struct {
	*trial.Dice
	w     *twins
	kinds int // the more of them, the more often something is closed
}

func (d *drawer) path() string {
	if d.Below(25) == 0 {
		return trial.One(d.Dice, "", "a", "/", "/..", "/a\x00", "/"+strings.Repeat("x", 55), strings.Repeat("/", 1024), "/none/..", "/a/x", "/none/x", "/self/x", "/d/../a")
	}
	return trial.One(d.Dice, "/a", "/b", "/c", "/d/a", "/d/b", "/d", "/l", "/m", "/up/a", "/self")
}

func (d *drawer) mode() int {
	switch d.Below(20) {
	case 0:
		return trial.One(d.Dice, 0, -1, 64, 65, math.MaxInt, math.MinInt, d.Below(64))
	case 1, 2, 3, 4, 5, 6:
		return trial.One(d.Dice, mRead, mRead+mWrite, mWrite+mAppend)
	}
	return trial.One(d.Dice, rightModes()...)
}

// handle is one that is open, most often.
func (d *drawer) handle(desk int) int {
	var open []int
	for h := range 18 {
		if _, is := d.w.clerks[desk].open[h]; is {
			open = append(open, h)
		}
	}
	if len(open) == 0 || d.Below(12) == 0 {
		return trial.One(d.Dice, d.Below(18), -1, 1<<32+1, math.MinInt)
	}
	return trial.One(d.Dice, open...)
}

func (d *drawer) number() int {
	if d.Below(8) == 0 {
		return trial.One(d.Dice, -1, 65536, 65537, api.MaxFile, api.MaxFile, api.MaxFile+1, api.MaxFile-d.Below(9000), -api.MaxFile, math.MaxInt, math.MinInt, 512*138+d.Below(900))
	}
	return trial.One(d.Dice, 0, 1, d.Below(20), d.Below(600), d.Below(6000), d.Below(12000))
}

func (d *drawer) bytes() []byte {
	if d.Below(30) == 0 {
		return make([]byte, trial.One(d.Dice, 65536, 65537))
	}
	return d.Bytes(trial.One(d.Dice, 0, 1, d.Below(20), d.Below(600), d.Below(5000)))
}

func (d *drawer) op() api.Op {
	switch d.Below(12) {
	case 0, 1, 2:
		return site.Unlink(d.path())
	case 3:
		return site.Create(d.path())
	case 4, 5:
		return site.Rename(d.path(), d.path())
	case 6, 7:
		return site.Link(d.path(), d.path())
	case 8:
		return site.Truncate(d.path(), d.number())
	case 9:
		return trial.One(d.Dice, site.Symlink("/l", "a"), site.Symlink("/m", "d/none"), site.Symlink("/up", "d"), site.Symlink("/self", "self"))
	case 10:
		return site.Mkdir("/d")
	}
	return api.Op{Kind: api.OpWrite, Path: d.path(), Off: d.Below(3000), Data: d.Bytes(d.Below(700))}
}

func (d *drawer) call() call {
	c := call{desk: trial.One(d.Dice, 0, 0, 0, 0, 1, 2)}
	c.handle, c.path = d.handle(c.desk), d.path()
	switch d.Below(d.kinds) {
	case 0, 1, 2:
		c.what, c.a = doesOpen, d.mode()
	case 3, 4, 5:
		c.what, c.a = doesRead, d.number()
	case 6, 7, 8:
		c.what, c.data = doesWrite, d.bytes()
	case 9, 10:
		c.what, c.a, c.b = doesSeek, d.number(), trial.One(d.Dice, 0, 0, 1, 2, 2, -1, 3)
		if d.Below(3) == 0 {
			c.a = -c.a
		}
	case 11:
		c.what = doesStat
	case 12, 13, 14:
		c.what, c.op = doesOp, d.op()
	default:
		c.what = doesClose
	}
	return c
}

func forms() []api.Super {
	return []api.Super{{Sectors: 28, Log: 18, Nodes: 8}, {Sectors: 64, Log: 18, Nodes: 8}, {Sectors: 100, Log: 40, Nodes: 24}, {Sectors: 400, Log: 18, Nodes: 12}}
}

// Each call of a desk answers what the chapter says, and makes the calls of the file system that it names, and no others: the disks are asked the same number of times, and hold the same.
func TestCallsDrawn(t *testing.T) {
	t.Parallel()
	seen := map[int]map[api.Errno]int{}
	for seed, form := range forms() {
		w := newTwins(t, form)
		d := &drawer{trial.NewDice(1400 + seed), w, 16}
		for i := range 8000 {
			if w.play(d.call()) {
				t.Fatal("dead without a fuse")
			}
			if i%50 == 0 {
				w.alike()
			}
			if d.Below(900) == 0 {
				w.mount()
			}
		}
		for what, list := range w.seen {
			if seen[what] == nil {
				seen[what] = map[api.Errno]int{}
			}
			for e, n := range list {
				seen[what][e] += n
			}
		}
	}
	for what, list := range map[int][]api.Errno{
		doesOpen:  {api.OK, api.ErrMany, api.ErrPath, api.ErrLong, api.ErrName, api.ErrMode, api.ErrExists, api.ErrNotFound, api.ErrIsDir, api.ErrNotDir, api.ErrLoop, api.ErrNoSpace, api.ErrNoNodes},
		doesRead:  {api.OK, api.ErrHandle, api.ErrMode, api.ErrArg, api.ErrLong},
		doesWrite: {api.OK, api.ErrHandle, api.ErrMode, api.ErrLong, api.ErrBig, api.ErrNoSpace},
		doesSeek:  {api.OK, api.ErrHandle, api.ErrArg, api.ErrBig},
		doesStat:  {api.OK, api.ErrHandle},
		doesClose: {api.OK, api.ErrHandle},
	} {
		for _, e := range list {
			if seen[what][e] < 10 {
				t.Errorf("the draw is thin: call %d has answered %v %d times", what, e, seen[what][e])
			}
		}
		for e, n := range seen[what] {
			if !slices.Contains(list, e) {
				t.Errorf("call %d has answered %v, %d times", what, e, n)
			}
		}
	}
}

// The same with fuses and power cuts: behind each the old desks are dead, and new ones find the same tree as the clerks do.
func TestCutsDrawn(t *testing.T) {
	t.Parallel()
	for seed, form := range forms() {
		w := newTwins(t, form)
		d := &drawer{trial.NewDice(1450 + seed), w, 19}
		cuts := map[int]int{}
		for range 6000 {
			if d.Below(10) == 0 {
				w.fuse(d.Below(25))
			}
			c := d.call()
			if !w.play(c) && d.Below(40) > 0 {
				continue
			}
			cuts[c.what]++
			var picks []api.Pick
			for range d.Below(4) {
				picks = append(picks, trial.One(d.Dice, trial.Keep(), trial.Lose(), trial.Tear(d.Below(513))))
			}
			old := w.desks[0]
			w.crash(picks)
			for _, a := range answersOf(old, 1+d.Below(16)) {
				trial.Is(t, "P5: "+a.what, a.e, api.ErrDead)
			}
		}
		for _, what := range []int{doesOpen, doesWrite, doesClose} {
			if cuts[what] < 20 {
				t.Errorf("%d cuts at call %d are few", cuts[what], what)
			}
		}
	}
}
