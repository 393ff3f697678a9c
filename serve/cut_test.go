package serve_test

import (
	"testing"

	"vellum/api"
	"vellum/site"
	"vellum/trial"
)

// durable has a file /a of some bytes, and nothing pending.
func durable(t *testing.T) *site.Ground {
	t.Helper()
	g := planted(t)
	g.All(site.Write("/a", 0, "hello"))
	trial.Is(t, "Checkpoint", g.F.Checkpoint(), api.OK)
	return g
}

// writesOf counts the writes and flushes of something that is done.
func writesOf(g *site.Ground, do func()) int {
	was := g.D.Counts()
	do()
	now := g.D.Counts()
	return now.Writes + now.Flushes - was.Writes - was.Flushes
}

// A call that is cut off is a Turn that answers ErrDead, and nothing beside it; one whose last write is let through is answered, and the next Turn is refused. The locks stay as they were.
func TestP2001Cut(t *testing.T) {
	first := durable(t)
	for what, p := range map[string]struct {
		c api.Call
		n int
	}{
		"CDo":                  {doing(site.Create("/new")), 0},
		"CDo, a long Write":    {doing(site.Write("/b", 0, string(make([]byte, 9000)))), 9000},
		"CWrite":               {write(1, string(make([]byte, 9000))), 9000},
		"COpen, which empties": {open("/a", mWrite+mEmpty), 3},
		"CSync":                {syncs(), 0},
	} {
		ready := func() *room {
			r := over(first.Copied(), 2)
			r.openBoth(2)
			r.does(1, lock(1, 0, 5, alone), api.OK, 0)
			return r
		}
		dry := ready()
		total := writesOf(dry.Ground, func() { dry.does(0, p.c, api.OK, p.n) })
		if total < 1 {
			t.Fatalf("%s makes no write", what)
		}
		for fuse := range total + 1 {
			r := ready()
			r.asks(0, p.c)
			r.D.Fuse(fuse)
			if fuse < total {
				r.refuses(0, api.ErrDead)
			} else {
				r.turns(0, 6, api.Reply{N: p.n})
			}
			r.refuses(0, api.ErrDead)
			r.refuses(1, api.ErrDead)
			r.locked(api.Lock{Node: 2, From: 0, To: 5, Mode: alone, Session: 1})
		}
	}
}

// An Open that makes a file ends with a Hold: so it is refused also where the last write of the Create is let through.
func TestP2001CutCreate(t *testing.T) {
	first := durable(t)
	dry := over(first.Copied(), 1)
	total := writesOf(dry.Ground, func() { dry.does(0, open("/new", both+mCreate), api.OK, 1) })
	for fuse := range total + 2 {
		r := over(first.Copied(), 1)
		r.asks(0, open("/new", both+mCreate))
		r.D.Fuse(fuse)
		if fuse <= total {
			r.refuses(0, api.ErrDead)
		} else {
			r.turns(0, 1, api.Reply{N: 1})
		}
	}
}

// A Close with which a file goes gives up the locks there also where it is cut off; on a disk that was burnt ahead of it nothing is done.
func TestP2007Cut(t *testing.T) {
	first := durable(t)
	ready := func() *room {
		r := over(first.Copied(), 2)
		r.openBoth(2)
		r.does(0, lock(1, 0, 5, alone), api.OK, 0)
		r.does(0, lock(2, 0, 5, shared), api.OK, 0)
		r.does(1, lock(2, 0, 6, shared), api.OK, 0)
		r.does(1, shut(1), api.OK, 0)
		r.does(1, doing(site.Unlink("/a")), api.OK, 0)
		trial.Is(t, "Checkpoint", r.F.Checkpoint(), api.OK)
		return r
	}
	dry := ready()
	total := writesOf(dry.Ground, func() { dry.does(0, shut(1), api.OK, 0) })
	if total < 2 {
		t.Fatalf("%d writes are few", total)
	}
	others := []api.Lock{{Node: 3, From: 0, To: 5, Mode: shared}, {Node: 3, From: 0, To: 6, Mode: shared, Session: 1}}
	for fuse := range total + 1 {
		r := ready()
		r.asks(0, shut(1))
		r.D.Fuse(fuse)
		if fuse < total {
			r.refuses(0, api.ErrDead)
		} else {
			r.turns(0, 10, api.Reply{})
		}
		if fuse == 0 {
			r.locked(append([]api.Lock{{Node: 2, From: 0, To: 5, Mode: alone}}, others...)...)
		} else {
			r.locked(others...)
		}
		r.refuses(0, api.ErrDead)
	}
}

// A Leave that is cut off has given up the locks. It closes in rising order, and what is open alone: so one with whose last Close the power goes is OK, and one that has another handle to close is not.
func TestP2011Cut(t *testing.T) {
	first := durable(t)
	theirs := api.Lock{Node: 3, From: 0, To: 6, Mode: shared, Session: 1}
	for _, p := range []struct {
		paths []string // of the handles; /a has no name any more when they are closed
		last  api.Errno
	}{
		{[]string{"/a"}, api.OK}, {[]string{"/b", "/a"}, api.OK}, {[]string{"/a", "/b"}, api.ErrDead}, {[]string{"/b", "/a", "/b"}, api.ErrDead}, {[]string{"/a", "/b", "/a"}, api.OK}, {[]string{"/a", "/a", "/b"}, api.ErrDead},
	} {
		ready := func() *room {
			r := over(first.Copied(), 2)
			for i, path := range p.paths {
				r.does(0, open(path, both), api.OK, i+1)
				r.does(0, lock(i+1, 0, 5, shared), api.OK, 0)
			}
			r.does(1, open("/b", mRead), api.OK, 1)
			r.does(1, lock(1, 0, 6, shared), api.OK, 0)
			r.does(1, doing(site.Unlink("/a")), api.OK, 0)
			r.asks(0, syncs())
			trial.Is(t, "Checkpoint", r.F.Checkpoint(), api.OK)
			return r
		}
		dry := ready()
		total := writesOf(dry.Ground, func() { dry.leaves(0) })
		if total < 2 {
			t.Fatalf("%d writes are few", total)
		}
		for fuse := range total + 2 {
			r := ready()
			was := r.h.Locks()
			r.D.Fuse(fuse)
			want := api.ErrDead
			switch {
			case fuse == total:
				want = p.last
			case fuse > total:
				want = api.OK
			}
			trial.Is(t, "P2011: Leave", r.h.Leave(0), want)
			if fuse == 0 {
				r.locked(was...)
			} else {
				r.locked(theirs)
			}
		}
	}
}
