package serve_test

import (
	"math"
	"strings"
	"testing"

	"vellum/api"
	"vellum/site"
	"vellum/trial"
)

// A call of each kind that reaches a desk or the file system, with all that its reply tells.
func TestP2001(t *testing.T) {
	r := newRoom(t, 2)
	r.All(site.Write("/b", 0, "hello"), site.Mkdir("/d"), site.Symlink("/l", "b"))
	for n, p := range []struct {
		c    api.Call
		want api.Reply
	}{
		{open("/b", both), api.Reply{N: 1}},
		{open("/none", both), api.Reply{Err: api.ErrNotFound}},
		{open("/b", 0), api.Reply{Err: api.ErrMode}},
		{open("/l", mWrite+mAppend), api.Reply{N: 2}},
		{open("/new", mRead+mCreate+mFresh), api.Reply{N: 3}},
		{open("/new", mRead+mCreate+mFresh), api.Reply{Err: api.ErrExists}},
		{read(1, 4), api.Reply{N: 4, Data: []byte("hell")}},
		{read(1, 4), api.Reply{N: 1, Data: []byte("o")}},
		{read(1, 4), api.Reply{}},
		{read(1, -1), api.Reply{Err: api.ErrArg}},
		{read(1, api.MaxIO+1), api.Reply{Err: api.ErrLong}},
		{read(2, 4), api.Reply{Err: api.ErrMode}},
		{read(4, 4), api.Reply{Err: api.ErrHandle}},
		{seek(1, 1, 0), api.Reply{N: 1}},
		{seek(1, 2, 1), api.Reply{N: 3}},
		{seek(1, 2, 2), api.Reply{N: 7}},
		{seek(1, 2, 3), api.Reply{Err: api.ErrArg}},
		{seek(1, maxFile+1, 0), api.Reply{Err: api.ErrBig}},
		{seek(4, 2, 0), api.Reply{Err: api.ErrHandle}},
		{write(1, "!!"), api.Reply{N: 2}},
		{write(2, "?"), api.Reply{N: 1}},
		{write(2, ""), api.Reply{}},
		{write(3, "?"), api.Reply{Err: api.ErrMode}},
		{write(0, "?"), api.Reply{Err: api.ErrHandle}},
		{write(1, string(make([]byte, api.MaxIO+1))), api.Reply{Err: api.ErrLong}},
		{stat(1), api.Reply{Stat: api.Stat{Node: 3, Kind: api.KFile, Links: 1, Size: 10, Owned: 1}}},
		{stat(16), api.Reply{Err: api.ErrHandle}},
		{doing(site.Read("/b", 5, 20)), api.Reply{N: 5, Data: []byte("\x00\x00!!?")}},
		{doing(site.Stat("/d")), api.Reply{Stat: api.Stat{Node: 4, Kind: api.KDir, Links: 2}}},
		{doing(site.Readlink("/l")), api.Reply{N: 1, Text: "b"}},
		{doing(site.Runs("/b")), api.Reply{N: 1, Runs: []api.Run{{From: 0, To: 1}}}},
		{doing(site.Create("/d/e")), api.Reply{}},
		{doing(site.List("/d")), api.Reply{N: 1, Entries: []api.Entry{{Node: 7, Kind: api.KFile, Name: "e"}}}},
		{doing(site.Create("/d/e")), api.Reply{Err: api.ErrExists}},
		{doing(api.Op{}), api.Reply{Err: api.ErrOp}},
		{shut(3), api.Reply{}},
		{shut(3), api.Reply{Err: api.ErrHandle}},
		{shut(-1), api.Reply{Err: api.ErrHandle}},
		{shut(17), api.Reply{Err: api.ErrHandle}},
		{syncs(), api.Reply{}},
	} {
		r.asks(0, p.c)
		r.turns(0, n+1, p.want)
	}
	for h := range 18 {
		r.does(1, stat(h), api.ErrHandle, 0) // its own desk
	}
}

// CDo means a path, whatever Node is: also that of a file that this very session has open.
func TestP2001Node(t *testing.T) {
	r := newRoom(t, 1)
	r.All(site.Write("/b", 0, "b"))
	r.does(0, open("/a", both), api.OK, 1)
	for _, node := range []int{2, 3, 1, -1, 77, math.MaxInt, math.MinInt} {
		for _, op := range []api.Op{site.Stat("/b"), site.Read("/b", 0, 1), site.Runs("/b")} {
			op.Node = node
			want := r.F.Do(api.Op{Kind: op.Kind, Path: op.Path, N: op.N})
			r.asks(0, doing(op))
			if a, e := r.h.Turn(0); e != api.OK || !alike(a.Reply, want) || want.Err != api.OK {
				t.Fatalf("P2001: %+v: %+v, %v, want %+v", op, a, e, want)
			}
		}
		op := site.Write("/none", 0, "x")
		op.Node = node
		r.does(0, doing(op), api.ErrNotFound, 0)
	}
	r.text("/a", "")
}

// A Write that finds no room tells how much it has written.
func TestP2001NoSpace(t *testing.T) {
	g := site.Fresh(t, api.Super{Sectors: 34, Log: 18, Nodes: 8}) // nine data blocks
	r := over(g, 1)
	r.does(0, open("/a", mWrite+mCreate), api.OK, 1)
	r.does(0, write(1, strings.Repeat("x", 8000)), api.ErrNoSpace, 4096)
	r.does(0, seek(1, 0, 1), api.OK, 4096)
	r.does(0, doing(site.Create("/b")), api.OK, 0)
	r.does(0, doing(site.Write("/b", 0, "xx")), api.ErrNoSpace, 0)
	r.does(0, doing(site.Write("/a", 4000, strings.Repeat("y", 600))), api.ErrNoSpace, 96)
}

// Sync makes durable what was done, by one flush; no other call but a Sync flushes, as long as the log has room.
func TestP2001Sync(t *testing.T) {
	g := site.Fresh(t, api.Super{Sectors: 400, Log: 256, Nodes: 24})
	g.All(site.Create("/a"), site.Create("/b"))
	g.Synced()
	r := over(g, 2)
	was := r.D.Counts().Flushes
	r.openBoth(2)
	r.does(0, write(1, "kept"), api.OK, 4)
	r.does(1, lock(1, 0, 0, alone), api.OK, 0)
	r.does(1, shut(1), api.OK, 0)
	if now := r.D.Counts().Flushes; now != was {
		t.Errorf("%d flushes without a Sync", now-was)
	}
	r.does(1, syncs(), api.OK, 0)
	if now := r.D.Counts(); now.Flushes != was+1 || now.Pending != 0 {
		t.Errorf("P2001: behind a Sync: %+v", now)
	}
	r.does(0, write(1, "lost"), api.OK, 4)
	r.D.Crash(nil)
	over(site.OnDisk(t, r.D), 1).text("/a", "kept")
}

// Any other kind is none, and has its turn.
func TestP2001Kinds(t *testing.T) {
	r := newRoom(t, 1)
	r.does(0, open("/a", both), api.OK, 1)
	for n, kind := range []int{0, -1, 12, 13, 100, 255, 256 + 4, 1<<32 + 1, math.MaxInt, math.MinInt} {
		c := api.Call{Kind: kind, Op: site.Unlink("/b"), Path: "/a", Handle: 1, Mode: 1, Data: []byte("x")}
		r.Unchanged("P2001: no call", func() {
			r.asks(0, c)
			r.turns(0, n+2, api.Reply{Err: api.ErrOp})
		})
	}
	r.locked()
}

// noisy is a call in which all is filled that its line does not name.
func noisy(c api.Call, d *trial.Dice) api.Call {
	n := api.Call{
		Kind: c.Kind, Path: trial.One(d, "", "/b", "b", "/", "/none"),
		Op:     trial.One(d, site.Unlink("/b"), site.Write("/a", 0, "noise"), site.Create("/c"), api.Op{Kind: -1}),
		Handle: d.Below(20) - 1, Off: d.Below(9) - 4, N: d.Below(9) - 4, Mode: d.Below(9) - 4, Data: d.Bytes(d.Below(9)),
	}
	switch c.Kind {
	case 1:
		n.Op = c.Op
		n.Op.Node = d.Below(5)
	case 2:
		n.Path, n.Mode = c.Path, c.Mode
	case 3:
		n.Handle, n.N = c.Handle, c.N
	case 4:
		n.Handle, n.Data = c.Handle, c.Data
	case 5:
		n.Handle, n.Off, n.N = c.Handle, c.Off, c.N
	case 6, 7:
		n.Handle = c.Handle
	case 8, 9:
		n.Handle, n.Off, n.N, n.Mode = c.Handle, c.Off, c.N, c.Mode
	case 10:
		n.Handle, n.Off, n.N = c.Handle, c.Off, c.N
	}
	return n
}

// The fields that a call's line does not name are not looked at.
func TestP2001Noise(t *testing.T) {
	d := trial.NewDice(2001)
	for range 40 {
		plain, noise := newRoom(t, 1), newRoom(t, 1)
		for _, c := range []api.Call{
			open("/a", both), open("/b", mRead), write(1, "some bytes"), seek(1, 3, 0), read(1, 4), stat(1),
			lock(1, 3, 4, alone), try(2, 0, 0, shared), unlock(1, 4, 1), doing(site.Read("/a", 1, 5)), doing(site.Rename("/b", "/c")), shut(2), syncs(),
		} {
			plain.asks(0, c)
			noise.asks(0, noisy(c, d))
			want, _ := plain.h.Turn(0)
			if got, e := noise.h.Turn(0); e != api.OK || got.Turn != want.Turn || !alike(got.Reply, want.Reply) || want.Reply.Err != api.OK {
				t.Fatalf("P2001: %+v with noise: %+v, %v, want %+v", c, got, e, want)
			}
			noise.locked(plain.h.Locks()...)
		}
	}
}

// Locks bind nobody who does not ask for locks.
func TestP2002Free(t *testing.T) {
	r := newRoom(t, 2)
	r.openBoth(2)
	r.does(0, lock(1, 0, 0, alone), api.OK, 0)
	r.does(0, write(1, "mine"), api.OK, 4)
	r.does(1, write(1, "your"), api.OK, 4)
	r.does(1, seek(1, 0, 0), api.OK, 0)
	if got := r.does(1, read(1, 9), api.OK, 4); string(got.Data) != "your" {
		t.Errorf("P2002: read %q", got.Data)
	}
	r.does(1, doing(site.Truncate("/a", 2)), api.OK, 0)
	r.does(1, open("/a", mWrite+mEmpty), api.OK, 3)
	r.does(1, doing(site.Unlink("/a")), api.OK, 0)
	r.does(1, shut(1), api.OK, 0)
	r.locked(api.Lock{Node: 2, From: 0, To: maxFile, Mode: alone})
}
