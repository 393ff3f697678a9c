package store_test

import (
	"bytes"
	"testing"

	"vellum/api"
	"vellum/disk"
	"vellum/store"
)

// player plays calls at a store, and knows what the store may be behind a cut. It knows nothing of logs and homes.
type player struct {
	t      *testing.T
	d      *disk.Disk
	s      *store.Store
	serial int
	states [][]byte // the whole array: as it was opened, and behind each transaction since
	sure   int      // the store is one of these from there on, whatever is lost
}

func tear(cut int) api.Pick  { return api.Pick{A: 1, B: 0, Cut: cut} }
func tear2(cut int) api.Pick { return api.Pick{A: 0, B: 1, Cut: cut} }

// arrayOf is all that a store holds.
func arrayOf(t *testing.T, s *store.Store) []byte {
	t.Helper()
	x := begun(t, s)
	var array []byte
	for b := range s.Layout().Blocks {
		data, e := x.Get(b)
		is(t, "Get", e, api.OK)
		array = append(array, data...)
	}
	is(t, "Abort", x.Abort(), api.OK)
	return array
}

func newPlayer(t *testing.T, image []byte) *player {
	t.Helper()
	d, e := disk.Load(image)
	is(t, "Load", e, api.OK)
	p := &player{t: t, d: d, s: opened(t, d)}
	p.states = [][]byte{arrayOf(t, p.s)}
	return p
}

// open asks that the store is what it may be, and goes on from there.
func (p *player) open() {
	p.t.Helper()
	p.s = opened(p.t, p.d)
	array := arrayOf(p.t, p.s)
	for k := len(p.states) - 1; k >= p.sure; k-- {
		if bytes.Equal(array, p.states[k]) {
			p.states, p.sure = [][]byte{array}, 0
			return
		}
	}
	for k := range p.sure {
		if bytes.Equal(array, p.states[k]) {
			p.t.Fatalf("P510: the store is as it was behind %d transactions of %d; %d are sure", k, len(p.states)-1, p.sure)
		}
	}
	p.t.Fatalf("P510: the store is as it never was; %d transactions, %d sure", len(p.states)-1, p.sure)
}

// alive says whether the call was let through, and holds any other error to be wrong.
func (p *player) alive(what string, e api.Errno) bool {
	p.t.Helper()
	if e != api.OK && e != api.ErrDead {
		p.t.Fatalf("%s: %v", what, e)
	}
	return e == api.OK
}

// change commits a transaction of so many blocks from that one on (around the end), with a content of its own, so that no two states are alike.
func (p *player) change(from, count int) bool {
	p.t.Helper()
	x, e := p.s.Begin()
	if !p.alive("Begin", e) {
		return false
	}
	p.serial++
	array := bytes.Clone(p.states[len(p.states)-1])
	blocks := len(array) / 512
	for i := range count {
		at := (from + i) % blocks
		data := newDice(p.serial*100 + i).bytes(512)
		if !p.alive("Put", x.Put(at, data)) {
			return false
		}
		copy(sectorAt(array, at), data)
	}
	p.states = append(p.states, array) // it may be there, whatever Commit answers
	return p.alive("Commit", x.Commit())
}

func (p *player) sync() bool {
	p.t.Helper()
	if !p.alive("Sync", p.s.Sync()) {
		return false
	}
	p.sure = len(p.states) - 1
	return true
}

func (p *player) checkpoint() bool {
	p.t.Helper()
	if !p.alive("Checkpoint", p.s.Checkpoint()) {
		return false
	}
	p.sure = len(p.states) - 1
	return true
}

// script is a list of calls: above 0 a transaction of so many blocks.
type script []int

const (
	doSync       = 0
	doCheckpoint = -1
	doOpen       = -2
)

// play answers whether all of it was let through.
func (p *player) play(s script) bool {
	p.t.Helper()
	for i, step := range s {
		alive := true
		switch step {
		case doSync:
			alive = p.sync()
		case doCheckpoint:
			alive = p.checkpoint()
		case doOpen:
			var e api.Errno
			if p.s, e = store.Open(p.d); e != api.OK {
				return p.alive("Open", e)
			}
			p.states, p.sure = p.states[len(p.states)-1:], 0 // without a cut nothing is lost, and all of it is durable now
		default:
			alive = p.change(i*3, step)
		}
		if !alive {
			return false
		}
	}
	return true
}

// The ring of 18 sectors is filled again and again, so that commits do checkpoints; the blocks of one transaction are those of others too.
var long = script{1, 2, doSync, 3, 1, doCheckpoint, doCheckpoint, 4, 1, doSync, 5, 16, doOpen, 2, doSync, 6, 3, doCheckpoint, 7, doSync, 7, 16, 1}

// choices are lists of picks for so many pending writes: all choices of lost, kept and torn ones where they are few, else some patterns.
func choices(pending int) [][]api.Pick {
	list := [][]api.Pick{{lose}, {keep}, {tear(1)}, {tear2(511)}, {tear(18), keep}, {keep, tear2(300)},
		{lose, keep}, {keep, lose}, {keep, keep, lose}, {lose, keep, keep}, {keep, tear(9), keep, keep}, {keep, keep, keep, keep, keep, lose, keep, keep}}
	if pending > 2 {
		return list
	}
	kinds := []api.Pick{lose, keep, tear(100), tear2(100)}
	for code := range 1 << (2 * pending) {
		var picks []api.Pick
		for i := range pending {
			picks = append(picks, kinds[code>>(2*i)&3])
		}
		list = append(list, picks)
	}
	return list
}

// everyCut plays the script up to each of its calls, cuts the power there with many picks, and hands on the player.
func everyCut(t *testing.T, s script, do func(p *player, calls int)) {
	t.Helper()
	image := formatted(t, small).Image()
	cut := func(calls int, picks []api.Pick) (*player, bool, int) {
		p := newPlayer(t, image)
		p.d.Fuse(calls)
		whole := p.play(s)
		pending := p.d.Counts().Pending
		p.d.Crash(picks)
		return p, whole, pending
	}
	for calls := 0; ; calls++ {
		_, whole, pending := cut(calls, nil)
		for _, picks := range choices(pending) {
			p, _, _ := cut(calls, picks)
			do(p, calls)
		}
		if whole {
			return
		}
	}
}

func TestP510EveryCut(t *testing.T) {
	t.Parallel()
	cuts := 0
	everyCut(t, long, func(p *player, calls int) {
		cuts++
		p.open()
		if !p.change(0, 2) || !p.sync() {
			t.Fatal("refused without a fuse")
		}
		p.d.Crash([]api.Pick{keep, lose})
		p.open() // the one more, and nothing that was lost before
	})
	if cuts < 1500 {
		t.Errorf("%d cuts are few", cuts)
	}
}

// What a cut has taken never comes back, though its record may lie in the ring whole.
func TestP510NeverAgain(t *testing.T) {
	t.Parallel()
	s := script{1, 2, doSync, 1, 3, 1}
	everyCut(t, s, func(p *player, calls int) {
		p.open()
		for range 3 {
			if !p.change(1, 1) {
				t.Fatal("refused without a fuse")
			}
			p.d.Crash([]api.Pick{lose})
			p.open()
		}
		if !p.change(2, 1) || !p.sync() {
			t.Fatal("refused without a fuse")
		}
		p.d.Crash(nil)
		p.open()
	})
}

// An Open that is cut at each of its calls, again and again, gives the same store as one that is not cut.
func TestP510OpenCut(t *testing.T) {
	t.Parallel()
	anew := [][]api.Pick{{lose}, {keep}, {tear(7)}, {tear2(200), keep}}
	s := script{2, 1, doSync, 3, doCheckpoint, 4, 3, 2}
	refused := 0
	everyCut(t, s, func(p *player, calls int) {
		image := p.d.Image()
		alone, _ := disk.Load(image)
		want := arrayOf(t, opened(t, alone))
		for i, picks := range anew {
			p.d, _ = disk.Load(image)
			for fuse := 0; ; fuse++ {
				p.d.Fuse(fuse)
				_, e := store.Open(p.d)
				p.d.Crash(picks)
				if p.alive("Open", e) {
					break
				}
				refused++
			}
			if got := arrayOf(t, opened(t, p.d)); !bytes.Equal(got, want) {
				t.Fatalf("P510: behind %d calls, cut with %v: another store", calls, anew[i])
			}
		}
		p.open()
	})
	if refused < 2000 {
		t.Errorf("%d Opens cut are few", refused)
	}
}

// Drawn calls with drawn cuts, on stores of several forms.
func TestP510Drawn(t *testing.T) {
	t.Parallel()
	d := newDice(510)
	cuts := 0
	for range 30 {
		super := one(d, small, api.Super{Sectors: 25, Log: 18, Nodes: 4}, api.Super{Sectors: 60, Log: 25, Nodes: 4}, api.Super{Sectors: 90, Log: 70, Nodes: 4})
		p := newPlayer(t, formatted(t, super).Image())
		blocks := p.s.Layout().Blocks
		for range 80 {
			if d.below(4) == 0 {
				p.d.Fuse(d.below(30))
			}
			alive := true
			switch d.below(8) {
			case 0:
				alive = p.sync()
			case 1:
				alive = p.checkpoint()
			default:
				alive = p.change(d.below(blocks), 1+d.below(min(blocks, one(d, 2, 5, 16))))
			}
			if alive && d.below(10) != 0 {
				continue
			}
			p.d.Crash(d.picks())
			for d.below(3) == 0 {
				p.d.Fuse(d.below(10))
				store.Open(p.d)
				p.d.Crash(d.picks())
			}
			if d.below(4) == 0 { // a disk that is loaded from its image goes on as the same one
				p.d, _ = disk.Load(p.d.Image())
			}
			cuts++
			p.open()
		}
	}
	if cuts < 300 {
		t.Errorf("%d cuts are few", cuts)
	}
}

// A Format that is cut at any call leaves what was there, or nothing that Open takes, or the new store.
func TestP501Cut(t *testing.T) {
	p := newPlayer(t, formatted(t, small).Image())
	if !p.play(script{5, 3, doCheckpoint, 4, doSync}) {
		t.Fatal("refused without a fuse")
	}
	full, old := p.d.Image(), p.states[len(p.states)-1]
	zeros := make([]byte, len(full))
	var was, bad, empty int
	for _, image := range [][]byte{full, zeros} {
		for calls := 0; ; calls++ {
			var e api.Errno
			for _, picks := range [][]api.Pick{{lose}, {keep}, {tear(100)}, {tear2(100)}, {tear(510)}, {tear2(3)}, {keep, tear(200)}} {
				d, _ := disk.Load(image)
				d.Fuse(calls)
				e = store.Format(d, small)
				p.alive("Format", e)
				d.Crash(picks)
				s, openE := store.Open(d)
				if openE == api.ErrCorrupt {
					bad++
					continue
				}
				is(t, "Open", openE, api.OK)
				switch array := arrayOf(t, s); {
				case bytes.Equal(array, old):
					was++
				case bytes.Equal(array, make([]byte, len(array))):
					empty++
				default:
					t.Fatalf("behind %d calls, %v: a store that never was", calls, picks)
				}
			}
			if e == api.OK {
				break
			}
		}
	}
	if was == 0 || bad < 500 || empty == 0 {
		t.Errorf("as before %d, refused %d, empty %d", was, bad, empty)
	}
}
