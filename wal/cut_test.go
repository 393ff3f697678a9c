package wal_test

import (
	"bytes"
	"encoding/binary"
	"testing"

	"vellum/api"
	"vellum/disk"
	"vellum/seal"
	"vellum/wal"
)

// player plays calls at a log, and knows what the log may tell behind a cut.
type player struct {
	t      *testing.T
	d      *disk.Disk
	l      *wal.Log
	n      int
	serial int
	kept   [][]byte // what would be told if nothing were lost
	sure   int      // so many of these are told whatever is lost
	none   bool     // or none at all: a Start or a Trim is under way
}

func newPlayer(t *testing.T, n int) *player {
	p := &player{t: t, d: formatted(t, n+4, 1, n), n: n}
	p.open()
	return p
}

// open asks that what is told may be told, and goes on from there.
func (p *player) open() {
	p.t.Helper()
	l, records, e := wal.Open(p.d, 1, p.n)
	if e != api.OK {
		p.t.Fatalf("P413: Open: %v", e)
	}
	prefix := len(records) >= p.sure && len(records) <= len(p.kept) && sameRecords(records, p.kept[:len(records)])
	if !prefix && !(p.none && len(records) == 0) {
		p.t.Fatalf("P413: Open tells records of %v bytes, of %v, %d of them sure, or none: %v", sizes(records), sizes(p.kept), p.sure, p.none)
	}
	p.l, p.kept, p.sure, p.none = l, records, len(records), false
}

// calls is how many writes and flushes were let through.
func (p *player) calls() int {
	c := p.d.Counts()
	return c.Writes + c.Flushes
}

// alive says whether the call was let through, and holds any other error to be wrong.
func (p *player) alive(what string, e api.Errno) bool {
	p.t.Helper()
	if e != api.OK && e != api.ErrDead {
		p.t.Fatalf("%s: %v", what, e)
	}
	return e == api.OK
}

func (p *player) start() bool {
	p.t.Helper()
	was := p.calls()
	if p.alive("Start", p.l.Start()) {
		p.kept, p.sure = nil, 0
		return true
	}
	p.none = p.calls() > was
	return false
}

// append puts a record of its own content, so that none is taken for another.
func (p *player) append(size int) bool {
	p.t.Helper()
	p.serial++
	d := newDice(p.serial)
	r := d.bytes(size)
	copy(r, binary.LittleEndian.AppendUint32(nil, uint32(p.serial)))
	was := p.calls()
	alive := p.alive("Append", p.l.Append(r))
	if p.calls() > was { // whole or cut, it may be there
		p.kept = append(p.kept, r)
	}
	return alive
}

func (p *player) sync() bool {
	p.t.Helper()
	if !p.alive("Sync", p.l.Sync()) {
		return false
	}
	p.sure = len(p.kept)
	return true
}

func (p *player) trim() bool {
	p.t.Helper()
	was := p.calls()
	if p.alive("Trim", p.l.Trim()) {
		p.kept, p.sure = nil, 0
		return true
	}
	if p.calls() > was { // its first Flush was let through
		p.sure = len(p.kept)
	}
	p.none = p.calls() > was+1
	return false
}

// script is a list of calls: above 0 an append of so many bytes.
type script []int

const (
	doSync  = 0
	doTrim  = -1
	doStart = -2
	doOpen  = -3
)

// play answers whether all of it was let through.
func (p *player) play(s script) bool {
	p.t.Helper()
	for _, step := range s {
		alive := true
		switch step {
		case doSync:
			alive = p.sync()
		case doTrim:
			alive = p.trim()
		case doStart:
			alive = p.start()
		case doOpen:
			if alive = !p.d.Burnt(); alive {
				p.open()
			}
		default:
			alive = p.append(step)
		}
		if !alive {
			return false
		}
	}
	return true
}

// The ring is gone round several times, with records that lie around its end, with Trims that have nothing to do, and with Opens without a cut.
var long = script{
	doStart, 492, 493, doSync, 3, 700, doTrim, doTrim, 8364, doTrim, 600, doSync, 5, doSync, 1000, 4,
	doOpen, doStart, 900, 900, doOpen, doOpen, doStart, 5000, doSync, 100, doTrim, 2000, doTrim, 8364, 20, doTrim, 492, 8000,
}

// cutAt plays the script with so many writes and flushes, and then cuts; it answers whether the power went within it.
func cutAt(t *testing.T, s script, calls int, picks []api.Pick) (*player, bool) {
	t.Helper()
	p := newPlayer(t, 18)
	p.d.Fuse(calls)
	whole := p.play(s)
	p.d.Crash(picks)
	return p, !whole
}

func tear(cut int) api.Pick  { return api.Pick{A: 1, B: 0, Cut: cut} }
func tear2(cut int) api.Pick { return api.Pick{A: 0, B: 1, Cut: cut} }

// choices are lists of picks for so many pending writes: all choices of lost, kept and torn ones where they are few, else some patterns.
func choices(pending int) [][]api.Pick {
	list := [][]api.Pick{{lose}, {keep}, {tear(1)}, {tear2(1)}, {tear(511)}, {tear2(511)}, {tear(18), keep}, {keep, tear2(300)},
		{lose, keep}, {keep, lose}, {keep, keep, lose}, {lose, keep, keep}, {keep, tear(9), keep, keep}, {keep, keep, keep, keep, keep, lose, keep, keep}}
	if pending > 3 {
		return list
	}
	kinds := []api.Pick{lose, keep, tear(100), tear2(100)}
	for code := range 1 << (2 * pending) {
		var picks []api.Pick
		for i := range pending {
			picks = append(picks, kinds[code>>(2*i)&3])
		}
		list = append(list, picks)
	}
	return list
}

// everyCut goes through all cuts of a script: at each call, with many picks.
func everyCut(t *testing.T, s script, do func(calls int, picks []api.Pick)) {
	t.Helper()
	for calls := 0; ; calls++ {
		p := newPlayer(t, 18)
		p.d.Fuse(calls)
		whole := p.play(s)
		for _, picks := range choices(p.d.Counts().Pending) {
			do(calls, picks)
		}
		if whole {
			return
		}
	}
}

func TestP412Pending(t *testing.T) {
	for calls := 0; ; calls++ {
		p := newPlayer(t, 18)
		p.d.Fuse(calls)
		whole := p.play(long)
		pending, before := p.d.Counts().Pending, p.d.Image()
		p.d.Crash([]api.Pick{keep})
		unlike := 0
		for at := range p.d.Sectors() {
			if !bytes.Equal(sectorAt(before, at), sectorAt(p.d.Image(), at)) {
				unlike++
			}
		}
		if unlike != pending {
			t.Fatalf("behind %d calls: %d writes are pending, of %d sectors", calls, pending, unlike)
		}
		if whole {
			return
		}
	}
}

func TestP412Whole(t *testing.T) {
	last, lost, kept := -1, []byte{}, []byte{}
	torn := 0
	everyCut(t, long, func(calls int, picks []api.Pick) {
		if calls != last {
			p, _ := cutAt(t, long, calls, []api.Pick{lose})
			lost = p.d.Image()
			p, _ = cutAt(t, long, calls, []api.Pick{keep})
			last, kept = calls, p.d.Image()
		}
		p, _ := cutAt(t, long, calls, picks)
		image := p.d.Image()
		for at := range p.d.Sectors() {
			s := sectorAt(image, at)
			if bytes.Equal(s, sectorAt(lost, at)) || bytes.Equal(s, sectorAt(kept, at)) {
				continue
			}
			torn++
			if _, e := seal.Open(s); e == api.OK {
				t.Fatalf("behind %d calls, %v: sector %d is sealed and nobody wrote it so", calls, picks, at)
			}
		}
	})
	if torn < 500 {
		t.Errorf("%d torn sectors are few", torn)
	}
}

func TestP413EveryCut(t *testing.T) {
	within := 0
	everyCut(t, long, func(calls int, picks []api.Pick) {
		p, cut := cutAt(t, long, calls, picks)
		p.open()
		if cut {
			within++
		}
	})
	if within < 1000 {
		t.Errorf("%d cuts are few", within)
	}
}

// Behind each cut the log is opened again and again, cut within its Start, and begun anew: with records that lie where those from before lay.
func TestP414NeverAgain(t *testing.T) {
	s := script{doStart, 492, 493, doSync, 493, 5, 600, doTrim, 492, 900, 10}
	anew := [][]api.Pick{{lose}, {keep}, {tear(7)}, {tear2(200)}}
	everyCut(t, s, func(calls int, picks []api.Pick) {
		p, _ := cutAt(t, s, calls, picks)
		p.open()
		p.open() // tells the same, as all of it is sure now
		p.d.Fuse(1)
		if p.start() {
			t.Fatal("Start with one call is let through")
		}
		p.d.Crash(anew[calls%len(anew)])
		p.open()
		if !p.play(script{doStart, 492, doSync}) {
			t.Fatal("refused without a fuse")
		}
		p.d.Crash(nil)
		p.open()
		if len(p.kept) != 1 {
			t.Fatalf("%d records, want 1", len(p.kept))
		}
		if !p.play(script{doStart, 493, 3, doSync, doTrim}) {
			t.Fatal("refused without a fuse")
		}
		p.d.Crash(picks)
		p.open()
		if len(p.kept) != 0 {
			t.Fatalf("%d records behind a Trim", len(p.kept))
		}
	})
}

// next draws a call that the log does not refuse for its room.
func (p *player) next(d *dice) int {
	if _, e := p.l.Room(); e == api.ErrEnded {
		return one(d, doStart, doStart, doStart, doOpen)
	}
	switch d.below(12) {
	case 0, 1:
		return doSync
	case 2:
		return doTrim
	case 3:
		return one(d, doOpen, doSync)
	}
	size := one(d, 4, 491, 492, 493, 984, 985, 8364, 4+d.below(1500))
	if free, e := p.l.Room(); e == api.OK && (size+491)/492 > free {
		return doTrim
	}
	return size
}

func (d *dice) picks() []api.Pick {
	var list []api.Pick
	for range d.below(6) {
		list = append(list, one(d, lose, keep, tear(d.below(513)), tear2(d.below(513)), api.Pick{A: d.below(9) - 4, B: d.below(9) - 4, Cut: d.below(2000) - 500}))
	}
	return list
}

// Drawn calls with drawn cuts at rings of several lengths.
func TestP413Drawn(t *testing.T) {
	d := newDice(413)
	cuts := 0
	for range 60 {
		p := newPlayer(t, one(d, 18, 18, 19, 23, 60))
		for range 150 {
			if d.below(4) == 0 {
				p.d.Fuse(d.below(20))
			}
			if p.play(script{p.next(d)}) && d.below(10) != 0 {
				continue
			}
			p.d.Crash(d.picks())
			cuts++
			p.open()
		}
	}
	if cuts < 500 {
		t.Errorf("%d cuts are few", cuts)
	}
}

// A disk that is loaded from its image goes on as the same one.
func TestP413Image(t *testing.T) {
	d := newDice(414)
	p := newPlayer(t, 18)
	for range 100 {
		for range 1 + d.below(10) {
			p.play(script{p.next(d)})
		}
		if d.below(2) == 0 && !p.play(script{p.next(d)}) {
			t.Fatal("refused without a fuse")
		}
		loaded, e := disk.Load(p.d.Image())
		is(t, "Load", e, api.OK)
		p.d = loaded // as a cut that loses all
		p.open()
	}
}

func TestExamples(t *testing.T) {
	lay := func(t *testing.T) (*disk.Disk, *wal.Log) {
		d := example(t)
		l := started(t, d, first, ring)
		is(t, "Append", l.Append(rec('a', 492)), api.OK)
		is(t, "Append", l.Append(rec('b', 493)), api.OK)
		is(t, "Sync", l.Sync(), api.OK)
		return d, l
	}
	a, b, c := rec('a', 492), rec('b', 493), rec('c', 3)
	t.Run("3", func(t *testing.T) {
		d, l := lay(t)
		is(t, "Append", l.Append(c), api.OK)
		d.Crash(nil)
		tells(t, d, first, ring, a, b)
	})
	t.Run("4", func(t *testing.T) {
		d, l := lay(t)
		is(t, "Append", l.Append(c), api.OK)
		d.Crash([]api.Pick{keep})
		tells(t, d, first, ring, a, b, c)
		d, l = lay(t)
		is(t, "Append", l.Append(c), api.OK)
		d.Crash([]api.Pick{tear(100)})
		tells(t, d, first, ring, a, b)
	})
	t.Run("5", func(t *testing.T) {
		d, l := lay(t)
		is(t, "Append", l.Append(b), api.OK)
		is(t, "Append", l.Append(rec('d', 5)), api.OK)
		d.Crash([]api.Pick{keep, lose, keep})
		l = tells(t, d, first, ring, a, b)
		is(t, "Start", l.Start(), api.OK)
		marks(t, l, 3, 0, 0)
		is(t, "Append", l.Append(c), api.OK)
		is(t, "Sync", l.Sync(), api.OK)
		d.Crash(nil)
		tells(t, d, first, ring, c)
	})
	t.Run("6", func(t *testing.T) {
		d := example(t)
		l := started(t, d, first, ring)
		is(t, "Append", l.Append(rec('a', 8364)), api.OK)
		is(t, "Append", l.Append(rec('b', 1)), api.OK)
		marks(t, l, 2, 0, 18)
		room(t, l, 0)
		is(t, "Append", l.Append(c), api.ErrFull)
		is(t, "Trim", l.Trim(), api.OK)
		marks(t, l, 2, 18, 18)
		room(t, l, 18)
		is(t, "Append", l.Append(c), api.OK)
		s, _ := d.Read(6)
		if body, e := seal.Open(s); e != api.OK || !bytes.Equal(body, part(2, 18, 0, 1, c)) {
			t.Errorf("the ring's sector 0: %v, %v", body, e)
		}
	})
	t.Run("8", func(t *testing.T) {
		d, _ := lay(t)
		d.Fuse(1)
		l := tells(t, d, first, ring, a, b)
		is(t, "Start", l.Start(), api.ErrDead)
		d.Crash(nil)
		d.Fuse(0)
		life := d.Life()
		_, _, e := wal.Open(d, first, ring)
		is(t, "Open", e, api.ErrDead)
		if d.Life() != life {
			t.Error("a burnt disk is taken")
		}
	})
}
