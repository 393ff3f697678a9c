package serve_test

import (
	"bytes"
	"math"
	"slices"
	"testing"

	"vellum/api"
	"vellum/fs"
	"vellum/serve"
	"vellum/site"
	"vellum/trial"
)

const (
	mRead   = 1
	mWrite  = 2
	mAppend = 4
	mCreate = 8
	mFresh  = 16
	mEmpty  = 32
	both    = mRead + mWrite
	shared  = 1
	alone   = 2
	maxFile = 8459264
)

// The calls by name.
func doing(op api.Op) api.Call            { return api.Call{Kind: 1, Op: op} }
func open(path string, mode int) api.Call { return api.Call{Kind: 2, Path: path, Mode: mode} }
func read(h, n int) api.Call              { return api.Call{Kind: 3, Handle: h, N: n} }
func write(h int, text string) api.Call   { return api.Call{Kind: 4, Handle: h, Data: []byte(text)} }
func seek(h, off, whence int) api.Call    { return api.Call{Kind: 5, Handle: h, Off: off, N: whence} }
func stat(h int) api.Call                 { return api.Call{Kind: 6, Handle: h} }
func shut(h int) api.Call                 { return api.Call{Kind: 7, Handle: h} }
func lock(h, off, n, mode int) api.Call {
	return api.Call{Kind: 8, Handle: h, Off: off, N: n, Mode: mode}
}
func try(h, off, n, mode int) api.Call {
	return api.Call{Kind: 9, Handle: h, Off: off, N: n, Mode: mode}
}
func unlock(h, off, n int) api.Call { return api.Call{Kind: 10, Handle: h, Off: off, N: n} }
func syncs() api.Call               { return api.Call{Kind: 11} }

// room is a disk, the file system on it, and a hall over that.
type room struct {
	*site.Ground
	h *serve.Hall
}

// planted has the files /a (node 2) and /b (node 3), of no bytes, and durable.
func planted(t *testing.T) *site.Ground {
	t.Helper()
	g := site.Fresh(t, api.Super{Sectors: 120, Log: 20, Nodes: 24})
	g.All(site.Create("/a"), site.Create("/b"))
	trial.Is(t, "Checkpoint", g.F.Checkpoint(), api.OK)
	return g
}

func over(g *site.Ground, sessions int) *room {
	g.T.Helper()
	h, e := serve.New(g.F, sessions)
	if e != api.OK || h == nil {
		g.T.Fatalf("P2008: New(%d): %v, %v", sessions, h, e)
	}
	return &room{g, h}
}

func newRoom(t *testing.T, sessions int) *room {
	t.Helper()
	return over(planted(t), sessions)
}

func (r *room) asks(session int, list ...api.Call) {
	r.T.Helper()
	for _, c := range list {
		trial.Is(r.T, "P2009: Ask", r.h.Ask(session, c), api.OK)
	}
}

// turns gives a session a turn, of which this number and this reply come.
func (r *room) turns(session, number int, want api.Reply) {
	r.T.Helper()
	a, e := r.h.Turn(session)
	if e != api.OK || a.Turn != number || !alike(a.Reply, want) {
		r.T.Fatalf("P2010: Turn(%d): %+v, %v, want turn %d and %+v", session, a, e, number, want)
	}
}

// refuses gives a session a turn that answers nothing but this error.
func (r *room) refuses(session int, want api.Errno) {
	r.T.Helper()
	a, e := r.h.Turn(session)
	if e != want || a.Turn != 0 || !alike(a.Reply, api.Reply{}) {
		r.T.Fatalf("P2010: Turn(%d): %+v, %v, want %v", session, a, e, want)
	}
}

// does asks a call and gives it its turn, of which this error comes, and this number of bytes, or handle, or place.
func (r *room) does(session int, c api.Call, e api.Errno, n int) api.Reply {
	r.T.Helper()
	r.asks(session, c)
	return r.goesOn(session, e, n)
}

// goesOn gives the session's first call its turn.
func (r *room) goesOn(session int, e api.Errno, n int) api.Reply {
	r.T.Helper()
	a, err := r.h.Turn(session)
	if err != api.OK || a.Reply.Err != e || a.Reply.N != n {
		r.T.Fatalf("Turn(%d): %+v, %v, want %v and %d", session, a, err, e, n)
	}
	return a.Reply
}

// waits asks a call of which nothing comes yet.
func (r *room) waits(session int, c api.Call) {
	r.T.Helper()
	r.asks(session, c)
	r.refuses(session, api.ErrWaits)
}

// dies asks a call with whose turn the file system is dead.
func (r *room) dies(session int, c api.Call) {
	r.T.Helper()
	r.asks(session, c)
	r.refuses(session, api.ErrDead)
}

func (r *room) leaves(session int) {
	r.T.Helper()
	trial.Is(r.T, "P2011: Leave", r.h.Leave(session), api.OK)
}

// locked asks that just these locks are held.
func (r *room) locked(want ...api.Lock) {
	r.T.Helper()
	if got := r.h.Locks(); !slices.Equal(got, want) {
		r.T.Fatalf("P2011: Locks: %v, want %v", got, want)
	}
}

// alike says whether two replies say the same.
func alike(a, b api.Reply) bool {
	return a.Err == b.Err && a.N == b.N && bytes.Equal(a.Data, b.Data) && a.Stat == b.Stat && slices.Equal(a.Entries, b.Entries) && slices.Equal(a.Runs, b.Runs) && a.Text == b.Text
}

// text is what a file holds.
func (r *room) text(path, want string) {
	r.T.Helper()
	if reply := r.F.Do(site.Read(path, 0, api.MaxIO)); reply.Err != api.OK || string(reply.Data) != want {
		r.T.Fatalf("%s holds %.60q, %v, want %.60q", path, reply.Data, reply.Err, want)
	}
}

// openBoth opens /a as handle 1 and /b as handle 2, for so many sessions.
func (r *room) openBoth(sessions int) {
	r.T.Helper()
	for s := range sessions {
		r.does(s, open("/a", both), api.OK, 1)
		r.does(s, open("/b", both), api.OK, 2)
	}
}

// The chapter's first five examples, and the last one.
func TestExamples(t *testing.T) {
	r := newRoom(t, 2)
	r.asks(0, open("/a", both))
	r.turns(0, 1, api.Reply{N: 1})
	r.asks(1, open("/a", both))
	r.turns(1, 2, api.Reply{N: 1})
	r.asks(0, lock(1, 0, 10, alone))
	r.turns(0, 3, api.Reply{})
	r.asks(1, try(1, 5, 1, shared))
	r.turns(1, 4, api.Reply{Err: api.ErrBusy})
	r.waits(1, lock(1, 5, 1, shared))
	r.asks(0, unlock(1, 0, 6))
	r.turns(0, 5, api.Reply{})
	r.locked(api.Lock{Node: 2, From: 6, To: 10, Mode: alone, Session: 0})
	r.turns(1, 6, api.Reply{})
	r.locked(api.Lock{Node: 2, From: 5, To: 6, Mode: shared, Session: 1}, api.Lock{Node: 2, From: 6, To: 10, Mode: alone, Session: 0})

	r = newRoom(t, 2)
	r.openBoth(2)
	r.does(0, lock(1, 0, 0, alone), api.OK, 0)
	r.does(1, lock(2, 0, 0, alone), api.OK, 0)
	r.waits(0, lock(2, 0, 0, alone))
	r.does(1, lock(1, 0, 0, alone), api.ErrDeadlock, 0)
	r.does(1, shut(2), api.OK, 0)
	r.goesOn(0, api.OK, 0)

	r = newRoom(t, 1)
	r.does(0, open("/a", both), api.OK, 1)
	r.does(0, lock(1, 0, 10, alone), api.OK, 0)
	r.does(0, lock(1, 3, 3, shared), api.OK, 0)
	r.locked(api.Lock{Node: 2, From: 0, To: 3, Mode: alone}, api.Lock{Node: 2, From: 3, To: 6, Mode: shared}, api.Lock{Node: 2, From: 6, To: 10, Mode: alone})
	r.does(0, lock(1, 3, 3, alone), api.OK, 0)
	r.locked(api.Lock{Node: 2, From: 0, To: 10, Mode: alone})
	r.does(0, lock(1, 0, 0, shared), api.OK, 0)
	r.locked(api.Lock{Node: 2, From: 0, To: maxFile, Mode: shared})
	r.does(0, lock(1, 8459264, 0, shared), api.ErrBig, 0)
	r.does(0, lock(1, 0, -1, shared), api.ErrArg, 0)
	r.does(0, lock(2, -1, -1, 9), api.ErrHandle, 0)
	r.does(0, lock(1, -1, 0, 9), api.ErrArg, 0)
	r.does(0, open("/a", both), api.OK, 2)
	r.does(0, shut(2), api.OK, 0)
	r.locked()

	r.refuses(0, api.ErrEnded)
	r.refuses(8, api.ErrSession)
	trial.Is(t, "P2009: Ask(-1)", r.h.Ask(-1, syncs()), api.ErrSession)
}

func TestP2008(t *testing.T) {
	g := planted(t)
	for n := 1; n <= api.MaxSessions; n++ {
		var r *room
		g.Unchanged("P2008: New", func() { r = over(g, n) })
		r.locked()
		for s := range n {
			r.refuses(s, api.ErrEnded)
			for h := range api.MaxOpen + 2 {
				r.does(s, stat(h), api.ErrHandle, 0)
				r.does(s, unlock(h, 0, 0), api.ErrHandle, 0)
			}
		}
		r.refuses(n, api.ErrSession)
	}
	for _, n := range []int{0, -1, 9, 10, 256, 1<<32 + 1, math.MaxInt, math.MinInt} {
		if h, e := serve.New(g.F, n); h != nil || e != api.ErrSession {
			t.Errorf("P2008: New(%d): %v, %v", n, h, e)
		}
	}
	g.D.Crash(nil)
	for _, n := range []int{0, 1, 8, 9} {
		if h, e := serve.New(g.F, n); h != nil || e != api.ErrDead {
			t.Errorf("P2008: New(%d) over what is dead: %v, %v", n, h, e)
		}
	}
}

// Halls over one file system share its files, but no turn, no handle and no lock.
func TestP2008Halls(t *testing.T) {
	g := planted(t)
	r, q := over(g, 2), over(g, 2)
	r.openBoth(2)
	r.does(0, lock(1, 0, 0, alone), api.OK, 0)
	q.does(0, stat(1), api.ErrHandle, 0)
	q.does(0, open("/a", both), api.OK, 1)
	q.locked()
	q.does(0, lock(1, 0, 5, alone), api.OK, 0)
	q.locked(api.Lock{Node: 2, From: 0, To: 5, Mode: alone})
	r.locked(api.Lock{Node: 2, From: 0, To: maxFile, Mode: alone})
	q.does(0, write(1, "from there"), api.OK, 10)
	if got := r.does(1, read(1, 99), api.OK, 10); string(got.Data) != "from there" {
		t.Errorf("P2008: the other hall reads %q", got.Data)
	}
	q.leaves(0)
	r.locked(api.Lock{Node: 2, From: 0, To: maxFile, Mode: alone})
	r.asks(1, syncs())
	r.turns(1, 7, api.Reply{})
}

func TestP2009(t *testing.T) {
	r := newRoom(t, 3)
	for _, s := range []int{-1, 3, 8, 1 << 32, math.MaxInt, math.MinInt} {
		trial.Is(t, "P2009: Ask of no session", r.h.Ask(s, syncs()), api.ErrSession)
		r.refuses(s, api.ErrSession)
		trial.Is(t, "P2011: Leave of no session", r.h.Leave(s), api.ErrSession)
	}
	for range api.MaxCalls {
		r.asks(1, api.Call{})
	}
	trial.Is(t, "P2009: the 257th Ask", r.h.Ask(1, syncs()), api.ErrMany)
	trial.Is(t, "P2009: the 258th Ask", r.h.Ask(1, syncs()), api.ErrMany)
	r.asks(0, syncs())
	r.asks(2, syncs())
	r.turns(1, 1, api.Reply{Err: api.ErrOp})
	r.asks(1, syncs())
	trial.Is(t, "P2009: one too many again", r.h.Ask(1, syncs()), api.ErrMany)
	for n := range api.MaxCalls - 1 {
		r.turns(1, n+2, api.Reply{Err: api.ErrOp})
	}
	r.turns(1, 257, api.Reply{})
	r.refuses(1, api.ErrEnded)
	r.turns(2, 258, api.Reply{})
	r.turns(0, 259, api.Reply{})
}

// A call that waits is one of those that are not answered; others may be asked behind it.
func TestP2009Waits(t *testing.T) {
	r := newRoom(t, 2)
	r.openBoth(2)
	r.does(0, lock(1, 0, 0, alone), api.OK, 0)
	r.waits(1, lock(1, 0, 1, alone))
	for range api.MaxCalls - 1 {
		r.asks(1, stat(2))
	}
	trial.Is(t, "P2009: the 257th Ask", r.h.Ask(1, syncs()), api.ErrMany)
	r.refuses(1, api.ErrWaits)
	r.does(0, unlock(1, 0, 1), api.OK, 0)
	r.turns(1, 7, api.Reply{})
	r.asks(1, syncs())
	r.turns(1, 8, api.Reply{Stat: api.Stat{Node: 3, Kind: api.KFile, Links: 1}})
}

// What was asked is done in its order, and is the call as it was asked, whatever became of the caller's bytes.
func TestP2009Own(t *testing.T) {
	r := newRoom(t, 1)
	data, other := []byte("first"), []byte("other")
	c := api.Call{Kind: api.CWrite, Handle: 1, Data: data}
	d := doing(site.Write("/b", 0, ""))
	d.Op.Data = other[:3]
	r.asks(0, open("/a", both), c, d)
	copy(data, "XXXXX")
	copy(other, "YYYYY")
	r.turns(0, 1, api.Reply{N: 1})
	r.turns(0, 2, api.Reply{N: 5})
	r.turns(0, 3, api.Reply{N: 3})
	r.text("/a", "first")
	r.text("/b", "oth")
	if string(data) != "XXXXX" || string(other) != "YYYYY" {
		t.Errorf("P2: the caller's bytes are %q, %q", data, other)
	}
}

// What is asked and not turned does nothing.
func TestP2016Asked(t *testing.T) {
	r := newRoom(t, 2)
	r.Unchanged("P2016: Ask", func() {
		r.asks(0, open("/a", both), write(1, "x"), lock(1, 0, 0, alone), doing(site.Unlink("/b")), syncs())
		r.asks(1, open("/new", both+mCreate))
		r.locked()
	})
	r.turns(1, 1, api.Reply{N: 1})
	r.turns(0, 2, api.Reply{N: 1})
	r.text("/a", "")
	r.turns(0, 3, api.Reply{N: 1})
	r.text("/a", "x")
	r.locked()
	r.turns(0, 4, api.Reply{})
	r.text("/b", "")
	r.turns(0, 5, api.Reply{})
	trial.Is(t, "Stat /b", r.F.Do(site.Stat("/b")).Err, api.ErrNotFound)
}

// Locks are told by node, then by where they begin, then by session; what is told is the caller's own.
func TestP2011Locks(t *testing.T) {
	r := newRoom(t, 8)
	r.openBoth(8)
	for _, s := range []int{5, 0, 7, 3} {
		r.does(s, lock(2, 4, 2, shared), api.OK, 0)
		r.does(s, lock(1, 4+s, 20, shared), api.OK, 0)
		r.does(s, lock(2, 1, 1, shared), api.OK, 0)
	}
	want := []api.Lock{
		{Node: 2, From: 4, To: 24, Mode: 1, Session: 0}, {Node: 2, From: 7, To: 27, Mode: 1, Session: 3}, {Node: 2, From: 9, To: 29, Mode: 1, Session: 5}, {Node: 2, From: 11, To: 31, Mode: 1, Session: 7},
		{Node: 3, From: 1, To: 2, Mode: 1, Session: 0}, {Node: 3, From: 1, To: 2, Mode: 1, Session: 3}, {Node: 3, From: 1, To: 2, Mode: 1, Session: 5}, {Node: 3, From: 1, To: 2, Mode: 1, Session: 7},
		{Node: 3, From: 4, To: 6, Mode: 1, Session: 0}, {Node: 3, From: 4, To: 6, Mode: 1, Session: 3}, {Node: 3, From: 4, To: 6, Mode: 1, Session: 5}, {Node: 3, From: 4, To: 6, Mode: 1, Session: 7},
	}
	r.locked(want...)
	got := r.h.Locks()
	got = append(got, api.Lock{Node: 9})
	clear(got)
	r.locked(want...)
	r.does(3, unlock(1, 9, 2), api.OK, 0)
	r.locked(slices.Insert(slices.Replace(slices.Clone(want), 1, 2, api.Lock{Node: 2, From: 7, To: 9, Mode: 1, Session: 3}), 3, api.Lock{Node: 2, From: 11, To: 27, Mode: 1, Session: 3})...)
}

// Leave takes a session's calls, locks and handles, and no other's; it may be asked anew.
func TestP2011Leave(t *testing.T) {
	r := newRoom(t, 3)
	r.openBoth(3)
	r.does(0, lock(1, 0, 5, alone), api.OK, 0)
	r.does(0, lock(2, 0, 5, shared), api.OK, 0)
	r.does(2, lock(2, 0, 9, shared), api.OK, 0)
	r.does(0, shut(1), api.OK, 0)
	r.does(0, open("/b", mRead), api.OK, 1)
	r.asks(0, write(2, "never"), syncs())
	r.waits(1, lock(2, 0, 0, alone))
	r.asks(1, write(2, "never"))
	r.Unchanged("P2011: Leave of no session", func() { trial.Is(t, "P2011: Leave(3)", r.h.Leave(3), api.ErrSession) })
	r.leaves(0)
	r.refuses(0, api.ErrEnded)
	r.locked(api.Lock{Node: 3, From: 0, To: 9, Mode: shared, Session: 2})
	r.refuses(1, api.ErrWaits)
	for h := range api.MaxOpen + 2 {
		r.does(0, stat(h), api.ErrHandle, 0)
		r.does(0, lock(h, 0, 0, shared), api.ErrHandle, 0)
	}
	r.does(0, open("/b", both), api.OK, 1)
	r.leaves(1) // it does not wait any more, and what it asked behind is gone too
	r.refuses(1, api.ErrEnded)
	r.text("/b", "")
	r.does(2, lock(2, 0, 0, alone), api.OK, 0)
	r.leaves(2)
	r.leaves(2)
	r.locked()
	r.does(0, write(1, "left"), api.OK, 4)
	r.leaves(0)
	if held := r.Held(); len(held) != 0 {
		t.Errorf("P2011: behind all the leaving the nodes %v are held", held)
	}
}

// All handles are closed, so a file without a name goes with the last session that has it.
func TestP2011Handles(t *testing.T) {
	r := newRoom(t, 2)
	blocks, nodes, _ := r.F.Space()
	for h := range api.MaxOpen {
		r.does(0, open("/a", both), api.OK, h+1)
	}
	r.does(0, open("/a", both), api.ErrMany, 0)
	r.does(1, open("/a", both), api.OK, 1)
	r.does(0, write(16, "bytes"), api.OK, 5)
	r.does(0, doing(site.Unlink("/a")), api.OK, 0)
	r.leaves(0)
	if got := r.does(1, read(1, 9), api.OK, 5); string(got.Data) != "bytes" {
		t.Errorf("P2011: %q", got.Data)
	}
	r.leaves(1)
	if b, n, e := r.F.Space(); b != blocks || n != nodes+1 || e != api.OK {
		t.Errorf("P2011: Space: %d, %d, %v, want %d, %d", b, n, e, blocks, nodes+1)
	}
}

// Behind a cut or a new mount the old hall is dead, whatever it is asked, but tells the locks that were held; a hall of the new mount knows none.
func TestP2017(t *testing.T) {
	for what, end := range map[string]func(r *room){
		"a power cut":              func(r *room) { r.D.Crash(nil) },
		"a cut that keeps all":     func(r *room) { r.D.Crash([]api.Pick{trial.Keep()}) },
		"a burnt disk":             func(r *room) { r.D.Fuse(0) },
		"a burnt disk, then a cut": func(r *room) { r.D.Fuse(0); r.h.Turn(0); r.D.Crash(nil) },
		"a new mount":              func(r *room) { site.Mounted(t, r.D) },
		"a new file system":        func(r *room) { fs.Mkfs(r.D, 20, 24) },
	} {
		r := newRoom(t, 3)
		r.openBoth(3)
		r.does(0, lock(1, 3, 4, alone), api.OK, 0)
		r.asks(0, write(1, "never"))
		r.waits(1, lock(1, 0, 0, alone))
		end(r)
		held := api.Lock{Node: 2, From: 3, To: 7, Mode: alone}
		dead := func() {
			t.Helper()
			was, life := r.D.Counts(), r.D.Life()
			for _, s := range []int{0, 1, 2, 3, -1, math.MaxInt} {
				for _, c := range []api.Call{{}, syncs(), shut(1), lock(9, -1, -1, 9)} {
					trial.Is(t, what+": Ask", r.h.Ask(s, c), api.ErrDead)
				}
				r.refuses(s, api.ErrDead)
				trial.Is(t, what+": Leave", r.h.Leave(s), api.ErrDead)
				r.locked(held)
			}
			for _, calls := range [][][]api.Call{nil, {nil}, {{syncs()}}, make([][]api.Call, 9), {make([]api.Call, 257)}} {
				if a, e := serve.Run(r.F, calls, []int{0}); len(a) != 0 || e != api.ErrDead {
					t.Fatalf("%s: Run: %v, %v", what, a, e)
				}
			}
			if r.D.Counts() != was || r.D.Life() != life {
				t.Fatalf("%s: a dead hall asks the disk: %+v, before %+v", what, r.D.Counts(), was)
			}
		}
		dead()
		r.D.Crash(nil)
		anew := over(site.OnDisk(t, r.D), 3)
		dead()
		anew.locked()
		if what == "a new file system" {
			continue
		}
		anew.text("/a", "")
		anew.does(1, stat(1), api.ErrHandle, 0)
		anew.does(1, open("/a", both), api.OK, 1)
		anew.does(1, lock(1, 0, 0, alone), api.OK, 0)
		anew.locked(api.Lock{Node: 2, From: 0, To: maxFile, Mode: alone, Session: 1})
	}
}
