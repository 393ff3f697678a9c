package pool_test

import (
	"bytes"
	"testing"

	"vellum/api"
	"vellum/disk"
	"vellum/pool"
	"vellum/store"
)

// player plays transactions with a pool, and knows what the bitmaps may be behind a cut.
type player struct {
	t      *testing.T
	d      *disk.Disk
	s      *store.Store
	states [][]byte // both bitmaps: as they were opened, and behind each transaction that was committed since
	sure   int      // they are one of these from there on, whatever is lost
}

var (
	keep = api.Pick{A: 1, B: 1}
	lose = api.Pick{}
)

func tear(cut int) api.Pick  { return api.Pick{A: 1, B: 0, Cut: cut} }
func tear2(cut int) api.Pick { return api.Pick{A: 0, B: 1, Cut: cut} }

func bothOf(t *testing.T, p *pool.Pool) []byte {
	t.Helper()
	return append(get(t, p, 0), get(t, p, 1)...)
}

// now is what the store holds, asked in a transaction of its own.
func now(t *testing.T, s *store.Store) []byte {
	t.Helper()
	p := begun(t, s)
	both := bothOf(t, p)
	is(t, "Abort", p.Abort(), api.OK)
	return both
}

func newPlayer(t *testing.T, image []byte) *player {
	t.Helper()
	d, e := disk.Load(image)
	is(t, "Load", e, api.OK)
	p := &player{t: t, d: d, s: opened(t, d)}
	p.states = [][]byte{now(t, p.s)}
	return p
}

// open asks that the bitmaps are what they may be, and goes on from there.
func (p *player) open(behind int, picks []api.Pick) {
	p.t.Helper()
	p.s = opened(p.t, p.d)
	both := now(p.t, p.s)
	for k := len(p.states) - 1; k >= p.sure; k-- {
		if bytes.Equal(both, p.states[k]) {
			p.states, p.sure = [][]byte{both}, 0
			return
		}
	}
	p.t.Fatalf("P604: cut behind %d calls with %v: block bitmap % x .., node bitmap % x .. is none of the %d that are sure, of %d", behind, picks, both[:8], both[512:514], len(p.states)-p.sure, len(p.states))
}

// step is one transaction: so many blocks and nodes are taken, these are dropped, and then it is committed or aborted, and synced.
type step struct {
	blocks, nodes int
	dropBlocks    []int
	dropNodes     []int
	abort, sync   bool
}

// The blocks and nodes that the steps take: no two of the states between are alike, those of the aborted ones neither.
var steps = []step{
	{blocks: 3, nodes: 2, sync: true},
	{blocks: 1, abort: true},
	{blocks: 9, nodes: 1, dropNodes: []int{1}},
	{dropBlocks: []int{4, 10}, abort: true},
	{dropBlocks: []int{3, 5}, dropNodes: []int{2}, sync: true},
	{nodes: 2, abort: true, sync: true},
	{blocks: 20, nodes: 1},
	{dropBlocks: []int{12, 20, 21}},
	{dropNodes: []int{3}, blocks: 4},
	{dropNodes: []int{1}, sync: true},
	{blocks: 2, dropBlocks: []int{9}, nodes: 1},
	{blocks: 6, nodes: 2},
	{blocks: 2, nodes: 1, abort: true},
	{dropBlocks: []int{33, 34, 35}, sync: true},
	{dropBlocks: []int{3, 4, 5, 6}, dropNodes: []int{1, 3}},
}

// do plays a step; its answer says whether the disk let it through. A pool's own calls need no write: none but Commit and Sync may be refused.
func (p *player) do(s step) bool {
	p.t.Helper()
	tx, e := p.s.Begin()
	if e != api.OK {
		is(p.t, "Begin", e, api.ErrDead)
		return false
	}
	x := pool.On(tx)
	for range s.blocks {
		_, e := x.TakeBlock()
		is(p.t, "TakeBlock", e, api.OK)
	}
	for range s.nodes {
		_, e := x.TakeNode()
		is(p.t, "TakeNode", e, api.OK)
	}
	for _, b := range s.dropBlocks {
		is(p.t, "DropBlock", x.DropBlock(b), api.OK)
	}
	for _, k := range s.dropNodes {
		is(p.t, "DropNode", x.DropNode(k), api.OK)
	}
	both := bothOf(p.t, x)
	if s.abort {
		is(p.t, "Abort", x.Abort(), api.OK)
		both = now(p.t, p.s)
		if !bytes.Equal(both, p.states[len(p.states)-1]) {
			p.t.Fatal("P604: behind Abort the bitmaps are not as they were")
		}
	} else {
		p.states = append(p.states, both) // it may be there, whatever Commit answers
		if e := x.Commit(); e != api.OK {
			is(p.t, "Commit", e, api.ErrDead)
			asks(p.t, x, api.ErrDead)
			return false
		}
	}
	if !s.sync {
		return true
	}
	if e := p.s.Sync(); e != api.OK {
		is(p.t, "Sync", e, api.ErrDead)
		return false
	}
	p.sure = len(p.states) - 1
	return true
}

func (p *player) play() bool {
	p.t.Helper()
	for _, s := range steps {
		if !p.do(s) {
			return false
		}
	}
	return true
}

// laidOut is the image of a store whose bitmaps are laid, committed and home.
func laidOut(t *testing.T) []byte {
	t.Helper()
	d, s, p := fresh(t, small)
	is(t, "Commit", p.Commit(), api.OK)
	is(t, "Checkpoint", s.Checkpoint(), api.OK)
	return d.Image()
}

// The power is cut at every call of the steps, and between any two of them, with many picks.
func TestP604EveryCut(t *testing.T) {
	t.Parallel()
	image := laidOut(t)
	picks := [][]api.Pick{nil, {keep}, {tear(1)}, {tear2(511)}, {tear(100)}, {tear2(100)}, {lose, keep}, {keep, lose}, {keep, tear(20)}, {tear2(20), keep},
		{keep, keep, lose}, {lose, lose, keep}, {keep, keep, tear(300), keep}, {keep, keep, keep, keep, lose}}
	cuts := 0
	for calls := 0; ; calls++ {
		whole := false
		for _, at := range picks {
			p := newPlayer(t, image)
			p.d.Fuse(calls)
			whole = p.play()
			p.d.Crash(at)
			p.open(calls, at)
			cuts++
			// What was lost does not come back.
			p.d.Crash(nil)
			p.open(calls, at)
		}
		if whole {
			break
		}
	}
	if cuts < 400 {
		t.Errorf("%d cuts are few", cuts)
	}
}

// A transaction that is open when the power goes was never.
func TestP604Open(t *testing.T) {
	image := laidOut(t)
	for n := range steps {
		for _, at := range [][]api.Pick{nil, {keep}, {tear(256)}} {
			p := newPlayer(t, image)
			for _, s := range steps[:n] {
				if !p.do(s) {
					t.Fatal("refused without a fuse")
				}
			}
			x := begun(t, p.s)
			x.TakeBlock()
			x.TakeNode()
			x.Clear()
			x.TakeBlock()
			is(t, "Sync", p.s.Sync(), api.OK) // syncs what was committed, and that alone
			p.sure = len(p.states) - 1
			p.d.Crash(at)
			asks(t, x, api.ErrDead)
			p.open(n, at)
		}
	}
}
