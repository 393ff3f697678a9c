package serve_test

import (
	"bytes"
	"slices"
	"testing"

	"vellum/api"
	"vellum/disk"
	"vellum/fs"
	"vellum/serve"
	"vellum/site"
	"vellum/trial"
)

// twins are two file systems on which the same is done: at the one by a hall, at the other by the chapter's words. Their disks must be written the same.
type twins struct {
	t        *testing.T
	disks    [2]*disk.Disk
	fs       [2]*fs.FS
	sessions int
	h        *serve.Hall
	w        *words
	seen     map[int]map[api.Errno]int // by the kind of a call: what came of it
	far      int                       // deadlocks that were seen over others
}

// newTwins have the files /a, /b and /c, and /l leads to /a.
func newTwins(t *testing.T, form api.Super, sessions int) *twins {
	t.Helper()
	w := &twins{t: t, sessions: sessions, seen: map[int]map[api.Errno]int{}}
	for i := range w.disks {
		g := site.Fresh(t, form)
		g.All(site.Create("/a"), site.Create("/b"), site.Create("/c"), site.Symlink("/l", "a"))
		g.Synced()
		w.disks[i] = g.D
	}
	w.mount()
	return w
}

func (w *twins) mount() {
	w.t.Helper()
	for i, d := range w.disks {
		w.fs[i] = site.Mounted(w.t, d)
	}
	w.enter()
}

// enter lays new halls over what is mounted.
func (w *twins) enter() {
	w.t.Helper()
	h, e := serve.New(w.fs[0], w.sessions)
	trial.Is(w.t, "P2008: New", e, api.OK)
	w.h, w.w = h, newWords(w.disks[1], w.fs[1], w.sessions)
}

func (w *twins) ask(session int, c api.Call) {
	w.t.Helper()
	trial.Is(w.t, "P2009: Ask", w.h.Ask(session, c), w.w.ask(session, c))
	w.same()
}

// turn gives both a turn, and tells what became of it.
func (w *twins) turn(session int) api.Errno {
	w.t.Helper()
	var c api.Call
	if !w.w.none(session) && len(w.w.seats[session].calls) > 0 {
		c = w.w.seats[session].calls[0]
	}
	got, e := w.h.Turn(session)
	want, wantE := w.w.turn(session)
	if e != wantE || got.Turn != want.Turn || !alike(got.Reply, want.Reply) {
		c.Data, c.Op.Data = nil, nil // they would fill the page
		w.t.Fatalf("P2010: Turn(%d), %+v: %.300q, want %.300q", session, c, []any{got, e}, []any{want, wantE})
	}
	w.same()
	w.note(session, c, e, got.Reply.Err)
	return e
}

func (w *twins) note(session int, c api.Call, e, reply api.Errno) {
	if w.seen[c.Kind] == nil {
		w.seen[c.Kind] = map[api.Errno]int{}
	}
	if e == api.OK {
		e = reply
	}
	w.seen[c.Kind][e]++
	if e != api.ErrDeadlock {
		return
	}
	for _, x := range w.w.rivals(session, c) {
		s := w.w.seats[x]
		if s.had && slices.Contains(w.w.rivals(x, s.calls[0]), session) {
			return
		}
	}
	w.far++
}

func (w *twins) leave(session int) api.Errno {
	w.t.Helper()
	e := w.h.Leave(session)
	trial.Is(w.t, "P2011: Leave", e, w.w.leave(session))
	w.same()
	return e
}

// beside does an operation at the file systems.
func (w *twins) beside(op api.Op) api.Errno {
	w.t.Helper()
	got, want := w.fs[0].Do(op), w.fs[1].Do(op)
	if !alike(got, want) {
		w.t.Fatalf("P2014: beside the hall: %.200q, want %.200q", []any{got}, []any{want})
	}
	w.same()
	return got.Err
}

// same asks that the same locks are held, and that the disks were written the same.
func (w *twins) same() {
	w.t.Helper()
	got := w.h.Locks()
	if want := w.w.locks(); !slices.Equal(got, want) {
		w.t.Fatalf("P2011: Locks: %v, want %v", got, want)
	}
	apart(w.t, got)
	w.written()
}

func (w *twins) written() {
	w.t.Helper()
	a, b := w.disks[0].Counts(), w.disks[1].Counts()
	a.Reads, b.Reads = 0, 0
	if a != b || w.disks[0].Burnt() != w.disks[1].Burnt() {
		w.t.Fatalf("P2014: the disk was asked %+v, want %+v", a, b)
	}
}

// images asks that the disks hold the same.
func (w *twins) images() {
	w.t.Helper()
	if !bytes.Equal(w.disks[0].Image(), w.disks[1].Image()) {
		w.t.Fatal("P2014: the disks are unlike")
	}
}

// apart asks of any two locks what must hold.
func apart(t *testing.T, locks []api.Lock) {
	t.Helper()
	if len(locks) > 64 {
		t.Fatalf("P2005: %d ranges", len(locks))
	}
	for i, a := range locks {
		if a.From < 0 || a.From >= a.To || a.To > maxFile || a.Mode != shared && a.Mode != alone {
			t.Fatalf("P2002: %+v", a)
		}
		for _, b := range locks[:i] {
			if a.Node != b.Node {
				continue
			}
			common := a.From < b.To && b.From < a.To
			touch := a.From == b.To || b.From == a.To
			switch {
			case a.Session == b.Session && (common || touch && a.Mode == b.Mode):
				t.Fatalf("P2003: %+v and %+v", a, b)
			case a.Session != b.Session && common && (a.Mode == alone || b.Mode == alone):
				t.Fatalf("P2015: %+v and %+v", a, b)
			}
		}
	}
}

// manner is how calls are drawn: which kinds, how wide the ranges are, in what of ten times they are to be held alone, and one in how many times a session leaves.
type manner struct {
	kinds            []int
	wide, alone, out int
}

func manners() []manner {
	return []manner{
		{[]int{1, 1, 2, 2, 2, 3, 4, 4, 5, 6, 7, 8, 8, 8, 9, 9, 10, 10, 11, 0}, 8, 5, 60},
		{[]int{2, 2, 8, 8, 8, 8, 8, 8, 8, 9, 10, 7}, 3, 9, 100},
		{[]int{2, 2, 8, 8, 8, 8, 8, 8, 8, 9, 10, 7}, 8, 7, 60},
		{[]int{2, 8, 8, 8, 9, 9, 9, 10, 10, 10}, 2, 1, 600},
		{[]int{1, 1, 2, 2, 2, 7, 7, 7, 4, 8, 11}, 6, 5, 20},
	}
}

// drawer draws calls that mean something, and some that do not.
type drawer struct {
	*trial.Dice
	manner
}

func (d *drawer) path() string {
	if d.Below(20) == 0 {
		return trial.One(d.Dice, "", "a", "/", "/none/x", "/a/x", "/none")
	}
	return trial.One(d.Dice, "/a", "/b", "/c", "/l", "/e")
}

func (d *drawer) openMode() int {
	if d.Below(12) == 0 {
		return d.Below(66) - 1
	}
	return trial.One(d.Dice, both, both, both+mCreate, both+mCreate, both+mCreate, mRead, mWrite, mWrite+mEmpty, mWrite+mAppend+mCreate)
}

// reach draws a range: most often one that may be.
func (d *drawer) reach() (off, n int) {
	from := d.Below(row)
	to := min(from+1+d.Below(d.wide), row)
	off, n = edge(from), edge(to)-edge(from)
	switch {
	case d.Below(60) == 0:
		return trial.One(d.Dice, -1, maxFile, maxFile+1), trial.One(d.Dice, -1, 0, 1, n, maxFile, maxFile+1)
	case d.Below(60) == 0:
		return off, trial.One(d.Dice, -1, maxFile+1, maxFile-off, maxFile-off+1)
	case to == row && d.Below(2) == 0:
		n = 0
	}
	return off, n
}

func (d *drawer) op() api.Op {
	switch d.Below(10) {
	case 0, 1, 2:
		return site.Unlink(d.path())
	case 3, 4:
		return site.Create(d.path())
	case 5:
		return site.Rename(d.path(), d.path())
	case 6:
		return site.Link(d.path(), d.path())
	case 7:
		return site.Read(d.path(), d.Below(99), d.Below(999))
	case 8:
		return trial.One(d.Dice, site.Symlink("/l", "a"), site.List("/"), site.Stat(d.path()), api.Op{Kind: d.Below(20) - 1, Path: d.path()})
	}
	return site.Write(d.path(), d.Below(2000), string(d.Bytes(d.Below(900))))
}

// call draws a call, for a session that has these handles.
func (d *drawer) call(open []int) api.Call {
	c := api.Call{Kind: trial.One(d.Dice, d.kinds...), Handle: d.Below(19) - 1, Op: d.op(), Path: d.path(), Data: d.Bytes(trial.One(d.Dice, 0, 1, d.Below(20), d.Below(1500)))}
	if len(open) > 0 && d.Below(15) > 0 {
		c.Handle = trial.One(d.Dice, open...)
	}
	switch c.Kind {
	case 0:
		c.Kind = trial.One(d.Dice, 0, -1, 12, 13, 1<<33)
	case 2:
		c.Mode = d.openMode()
	case 8, 9, 10:
		c.Off, c.N = d.reach()
		c.Mode = shared
		if d.Below(10) < d.alone {
			c.Mode = alone
		}
		if d.Below(40) == 0 {
			c.Mode = trial.One(d.Dice, 0, 3, -1)
		}
	default:
		c.Off, c.N = d.Below(3000)-30, trial.One(d.Dice, 0, 1, 2, d.Below(1500)-10)
	}
	return noiseOr(c, d)
}

// noiseOr fills, now and then, what the call does not name.
func noiseOr(c api.Call, d *drawer) api.Call {
	if d.Below(3) == 0 {
		return noisy(c, d.Dice)
	}
	return c
}

func forms() []api.Super {
	return []api.Super{{Sectors: 80, Log: 18, Nodes: 12}, {Sectors: 120, Log: 40, Nodes: 24}, {Sectors: 36, Log: 18, Nodes: 8}}
}

// next draws what is done next; it tells whether the file system is dead by then.
func (w *twins) next(d *drawer) bool {
	w.t.Helper()
	session := d.Below(w.sessions)
	switch what := d.Below(d.out * 4); {
	case what < 4:
		return w.leave(session) == api.ErrDead
	case what < 14:
		return w.beside(d.op()) == api.ErrDead
	case what == 14:
		session = trial.One(d.Dice, -1, w.sessions, 1<<32)
		w.ask(session, api.Call{})
		return w.turn(session) == api.ErrDead
	}
	s := w.w.seats[session]
	if len(s.calls) == 0 || len(s.calls) < 4 && d.Below(6) == 0 {
		var open []int
		for h := range 17 {
			if _, is := s.files[h]; is {
				open = append(open, h)
			}
		}
		w.ask(session, d.call(open))
	}
	return w.turn(session) == api.ErrDead
}

// Whatever is asked, in whatever order: each turn answers what the chapter says, the same locks are held, and the disks are written the same.
func TestTurnsDrawn(t *testing.T) {
	t.Parallel()
	seen := map[int]map[api.Errno]int{}
	far := 0
	for seed, m := range manners() {
		for i, sessions := range []int{1, 2, 5, 7, 8} {
			w := newTwins(t, forms()[(seed+i)%3], sessions)
			d := &drawer{trial.NewDice(2000 + 10*seed + i), m}
			for n := range 3000 {
				if w.next(d) {
					t.Fatal("dead without a fuse")
				}
				if n%100 == 0 {
					w.images()
				}
			}
			far += w.far
			for kind, list := range w.seen {
				if seen[kind] == nil {
					seen[kind] = map[api.Errno]int{}
				}
				for e, n := range list {
					seen[kind][e] += n
				}
			}
		}
	}
	for kind, list := range map[int][]api.Errno{
		2:  {api.OK, api.ErrMany, api.ErrMode, api.ErrNotFound},
		3:  {api.OK, api.ErrHandle, api.ErrMode},
		4:  {api.OK, api.ErrHandle, api.ErrMode},
		5:  {api.OK, api.ErrHandle},
		6:  {api.OK, api.ErrHandle},
		7:  {api.OK, api.ErrHandle},
		8:  {api.OK, api.ErrHandle, api.ErrArg, api.ErrBig, api.ErrMode, api.ErrWaits, api.ErrDeadlock, api.ErrLocks},
		9:  {api.OK, api.ErrHandle, api.ErrArg, api.ErrBig, api.ErrMode, api.ErrBusy, api.ErrLocks},
		10: {api.OK, api.ErrHandle, api.ErrArg, api.ErrBig, api.ErrLocks},
		11: {api.OK},
		12: {api.ErrOp},
	} {
		for _, e := range list {
			if seen[kind][e] < 8 {
				t.Errorf("the draw is thin: of kind %d came %v %d times", kind, e, seen[kind][e])
			}
		}
		for e, n := range seen[kind] {
			if kind >= 7 && !slices.Contains(list, e) {
				t.Errorf("of kind %d came %v, %d times", kind, e, n)
			}
		}
	}
	if far < 30 {
		t.Errorf("the draw is thin: %d deadlocks over others", far)
	}
}

// The same with fuses and power cuts: what a hall answers while the power goes, and that it is dead then, with the locks that it had.
func TestCutsDrawn(t *testing.T) {
	t.Parallel()
	cuts := map[int]int{}
	for seed, m := range manners() {
		w := newTwins(t, forms()[seed%3], 3)
		d := &drawer{trial.NewDice(2100 + seed), m}
		for range 6000 {
			if d.Below(12) == 0 {
				calls := d.Below(14)
				for _, x := range w.disks {
					x.Fuse(calls)
				}
			}
			if !w.next(d) && d.Below(60) > 0 {
				continue
			}
			w.crash(d)
		}
		for kind, list := range w.seen {
			cuts[kind] += list[api.ErrDead]
		}
	}
	for _, kind := range []int{1, 2, 4, 7} {
		if cuts[kind] < 5 {
			t.Errorf("%d cuts at calls of kind %d are few", cuts[kind], kind)
		}
	}
}

// crash cuts the power at both, asks the old hall, and mounts anew.
func (w *twins) crash(d *drawer) {
	w.t.Helper()
	var picks []api.Pick
	for range d.Below(4) {
		picks = append(picks, trial.One(d.Dice, trial.Keep(), trial.Lose(), trial.Tear(d.Below(513))))
	}
	for _, x := range w.disks {
		x.Crash(picks)
	}
	w.images()
	for session := range w.sessions + 1 {
		w.ask(session, syncs())
		trial.Is(w.t, "P2017: Turn", w.turn(session), api.ErrDead)
		trial.Is(w.t, "P2017: Leave", w.leave(session), api.ErrDead)
	}
	w.mount()
	w.same()
	if got := w.h.Locks(); len(got) > 0 {
		w.t.Fatalf("P2017: a new hall holds %v", got)
	}
}
