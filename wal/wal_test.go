package wal_test

import (
	"bytes"
	"math"
	"testing"

	"vellum/api"
	"vellum/disk"
	"vellum/seal"
	"vellum/wal"
)

func is(t *testing.T, what string, got, want api.Errno) {
	t.Helper()
	if got != want {
		t.Fatalf("%s: %v, want %v", what, got, want)
	}
}

func marks(t *testing.T, l *wal.Log, epoch, tail, head int) {
	t.Helper()
	if a, b, c, e := l.Marks(); a != epoch || b != tail || c != head || e != api.OK {
		t.Fatalf("Marks %d, %d, %d, %v, want %d, %d, %d", a, b, c, e, epoch, tail, head)
	}
}

func room(t *testing.T, l *wal.Log, want int) {
	t.Helper()
	if r, e := l.Room(); r != want || e != api.OK {
		t.Fatalf("Room %d, %v, want %d", r, e, want)
	}
}

// rec is a record of m bytes that are unlike one another.
func rec(c byte, m int) []byte {
	r := make([]byte, m)
	for i := range r {
		r[i] = c + byte(i%251)
	}
	return r
}

func blank(t *testing.T, sectors int) *disk.Disk {
	t.Helper()
	d, e := disk.New(sectors)
	is(t, "New", e, api.OK)
	return d
}

func formatted(t *testing.T, sectors, first, n int) *disk.Disk {
	t.Helper()
	d := blank(t, sectors)
	is(t, "Format", wal.Format(d, first, n), api.OK)
	return d
}

func opened(t *testing.T, d *disk.Disk, first, n int) (*wal.Log, [][]byte) {
	t.Helper()
	l, records, e := wal.Open(d, first, n)
	if l == nil || e != api.OK {
		t.Fatalf("Open: a log %v, %v", l != nil, e)
	}
	return l, records
}

func started(t *testing.T, d *disk.Disk, first, n int) *wal.Log {
	t.Helper()
	l, _ := opened(t, d, first, n)
	is(t, "Start", l.Start(), api.OK)
	return l
}

// tells asks that Open tells just these records.
func tells(t *testing.T, d *disk.Disk, first, n int, want ...[]byte) *wal.Log {
	t.Helper()
	l, records := opened(t, d, first, n)
	if !sameRecords(records, want) {
		t.Fatalf("Open tells records of %v bytes, want %v", sizes(records), sizes(want))
	}
	return l
}

// The disk of the chapter's examples.
const sectors, first, ring = 30, 4, 18

func example(t *testing.T) *disk.Disk {
	t.Helper()
	return formatted(t, sectors, first, ring)
}

// keep and lose are picks of a sector with one pending write.
var (
	keep = api.Pick{A: 1, B: 1}
	lose = api.Pick{}
)

// did is what was done since: writes, flushes.
func did(d *disk.Disk, was api.Counts) [2]int {
	c := d.Counts()
	return [2]int{c.Writes - was.Writes, c.Flushes - was.Flushes}
}

func wantDid(t *testing.T, what string, d *disk.Disk, was api.Counts, writes, flushes int) {
	t.Helper()
	if got := did(d, was); got != [2]int{writes, flushes} {
		t.Fatalf("%s: writes and flushes %v, want %d and %d", what, got, writes, flushes)
	}
	if c := d.Counts(); c.Refused != was.Refused {
		t.Fatalf("%s: the disk was asked for what it has not: %+v", what, c)
	}
}

func modelArguments(sectors, first, n int) api.Errno {
	switch {
	case first < 0 || first >= sectors:
		return api.ErrRange
	case n < 18 || n > 256:
		return api.ErrArg
	case first+2+n > sectors:
		return api.ErrRange
	}
	return api.OK
}

func TestP401Arguments(t *testing.T) {
	for _, sectors := range []int{1, 19, 20, 21, 30, 258, 259, 2048} {
		for _, first := range []int{math.MinInt, -1, 0, 1, 9, 10, 11, sectors - 259, sectors - 258, sectors - 257, sectors - 21, sectors - 20, sectors - 19, sectors - 1, sectors, sectors + 1, 1 << 32, math.MaxInt - 100, math.MaxInt} {
			for _, n := range []int{math.MinInt, -1, 0, 1, 17, 18, 19, 28, 29, 255, 256, 257, 1 << 32, 1<<32 + 18, math.MaxInt} {
				d := blank(t, sectors)
				want := modelArguments(sectors, first, n)
				l, records, e := wal.Open(d, first, n)
				if want == api.OK {
					is(t, "Open of zeros", e, api.ErrCorrupt)
					is(t, "Format", wal.Format(d, first, n), want)
					continue
				}
				if l != nil || len(records) != 0 || e != want {
					t.Fatalf("Open of %d sectors at %d with %d: %v, want %v", sectors, first, n, e, want)
				}
				if e := wal.Format(d, first, n); e != want {
					t.Fatalf("Format of %d sectors at %d with %d: %v, want %v", sectors, first, n, e, want)
				}
				if d.Life() != 1 || d.Counts() != (api.Counts{}) {
					t.Fatalf("something was done at %d with %d: life %d, %+v", first, n, d.Life(), d.Counts())
				}
			}
		}
	}
}

func TestP401NothingDone(t *testing.T) {
	d := example(t)
	l := started(t, d, first, ring)
	is(t, "Append", l.Append(rec('a', 5)), api.OK)
	was, image := d.Counts(), d.Image()
	for _, c := range []struct {
		first, n int
		e        api.Errno
	}{{-1, 18, api.ErrRange}, {30, 17, api.ErrRange}, {4, 17, api.ErrArg}, {4, 257, api.ErrArg}, {11, 18, api.ErrRange}} {
		is(t, "Format", wal.Format(d, c.first, c.n), c.e)
		_, _, e := wal.Open(d, c.first, c.n)
		is(t, "Open", e, c.e)
	}
	if d.Counts() != was || !bytes.Equal(d.Image(), image) {
		t.Errorf("%+v, was %+v", d.Counts(), was)
	}
	is(t, "the log goes on", l.Append(rec('b', 5)), api.OK)
	d.Fuse(0)
	life := d.Life()
	for _, at := range []int{4, -1, 30} {
		for _, n := range []int{18, 17} {
			is(t, "burnt", wal.Format(d, at, n), api.ErrDead)
			l, records, e := wal.Open(d, at, n)
			if l != nil || len(records) != 0 || e != api.ErrDead {
				t.Errorf("Open of a burnt disk: %v, %v, %v", l, records, e)
			}
		}
	}
	if d.Life() != life || d.Counts().Writes != was.Writes+1 {
		t.Error("a burnt disk was taken")
	}
}

func TestP402Format(t *testing.T) {
	for _, c := range []struct{ sectors, first, n int }{{20, 0, 18}, {30, 4, 18}, {30, 10, 18}, {30, 9, 19}, {258, 0, 256}, {300, 40, 256}} {
		d := blank(t, c.sectors)
		for s := range c.sectors {
			d.Write(s, bytes.Repeat([]byte{9}, 512))
		}
		d.Flush()
		was, want := d.Counts(), d.Image()
		is(t, "Format", wal.Format(d, c.first, c.n), api.OK)
		wantDid(t, "Format", d, was, c.n+3, 2)
		clear(want[c.first*512 : (c.first+2+c.n)*512])
		lay(want, c.first, anchorOf(1, 0))
		if d.Counts().Pending != 0 || !bytes.Equal(d.Image(), want) {
			t.Errorf("the disk behind Format of %+v", c)
		}
		l := tells(t, d, c.first, c.n)
		marks(t, l, 1, 0, 0)
	}
}

// The order of what Format writes shows where the power goes between: with all lost, and with all kept.
func TestP402Order(t *testing.T) {
	for calls := 0; calls <= ring+5; calls++ {
		for _, pick := range []api.Pick{lose, keep} {
			d := example(t)
			for s := range sectors {
				d.Write(s, bytes.Repeat([]byte{9}, 512))
			}
			d.Flush()
			was, want := d.Counts(), d.Image()
			d.Fuse(calls)
			wantE := api.ErrDead
			if calls == ring+5 {
				wantE = api.OK
			}
			is(t, "Format", wal.Format(d, first, ring), wantE)
			wantDid(t, "Format", d, was, min(calls, ring+2)+max(0, min(calls-ring-3, 1)), max(0, min(calls-ring-2, 1))+max(0, calls-ring-4))
			d.Crash([]api.Pick{pick})
			if pick == keep || calls >= ring+3 {
				clear(want[first*512 : (first+min(calls, ring+2))*512])
			}
			if pick == keep && calls >= ring+4 || calls == ring+5 {
				lay(want, first, anchorOf(1, 0))
			}
			if !bytes.Equal(d.Image(), want) {
				t.Fatalf("cut behind %d calls, %v: the image", calls, pick)
			}
		}
	}
}

func TestP402Again(t *testing.T) {
	d := example(t)
	l := started(t, d, first, ring)
	is(t, "Append", l.Append(rec('a', 5000)), api.OK)
	is(t, "Sync", l.Sync(), api.OK)
	is(t, "Trim", l.Trim(), api.OK)
	is(t, "Append", l.Append(rec('b', 5000)), api.OK)
	is(t, "Format", wal.Format(d, first, ring), api.OK)
	is(t, "of the other", l.Append(rec('c', 1)), api.ErrDead)
	l = tells(t, d, first, ring)
	marks(t, l, 1, 0, 0)
}

func TestP403Anchors(t *testing.T) {
	zero := make([]byte, 512)
	for _, c := range []struct {
		what        string
		left, right []byte // bodies; nil: zeros
		e           api.Errno
		epoch, tail int
	}{
		{"none", nil, nil, api.ErrCorrupt, 0, 0},
		{"left alone", anchorOf(3, 7), nil, api.OK, 3, 7},
		{"right alone", nil, anchorOf(3, 7), api.OK, 3, 7},
		{"a greater epoch", anchorOf(3, 7), anchorOf(4, 0), api.OK, 4, 0},
		{"a greater tail", anchorOf(3, 8), anchorOf(3, 7), api.OK, 3, 8},
		{"a tail above an epoch", anchorOf(1, 1<<30), anchorOf(2, 0), api.OK, 2, 0},
		{"epoch 0", nil, anchorOf(0, 5), api.ErrCorrupt, 0, 0},
		{"the greatest tail", nil, anchorOf(9, 1<<30), api.OK, 9, 1 << 30},
		{"a tail above", nil, anchorOf(9, 1<<30+1), api.ErrCorrupt, 0, 0},
		{"a tail far above", nil, anchorOf(9, 1<<32-1), api.ErrCorrupt, 0, 0},
		{"a tail with the highest bit", nil, anchorOf(9, 1<<31+5), api.ErrCorrupt, 0, 0},
		{"the greatest epoch but one", anchorOf(1<<30-1, 0), nil, api.OK, 1<<30 - 1, 0},
		{"the greatest epoch", anchorOf(1<<30, 0), nil, api.ErrWorn, 0, 0},
		{"the greatest of both", anchorOf(1<<30, 1<<30), nil, api.ErrWorn, 0, 0},
		{"an epoch above", anchorOf(1<<30+1, 0), nil, api.ErrCorrupt, 0, 0},
		{"an epoch far above", anchorOf(1<<31-1, 0), nil, api.ErrCorrupt, 0, 0},
		{"data", nil, anchorOf(9, 0, 0), api.ErrCorrupt, 0, 0},
		{"data in a worn one", nil, anchorOf(1<<30, 0, 1), api.ErrCorrupt, 0, 0},
		{"a tail above in a worn one", nil, anchorOf(1<<30, 1<<30+1), api.ErrCorrupt, 0, 0},
		{"data in the older one", anchorOf(8, 9, 1, 2, 3), anchorOf(9, 0), api.OK, 9, 0},
		{"a tail above in the older one", anchorOf(9, 0), anchorOf(8, 1<<30+1), api.OK, 9, 0},
		{"epoch 0 in the older one", anchorOf(0, 9), anchorOf(1, 0), api.OK, 1, 0},
		{"data in the newer one", anchorOf(8, 9), anchorOf(9, 0, 1), api.ErrCorrupt, 0, 0},
		{"an epoch above in the newer one", anchorOf(8, 9), anchorOf(1<<30+1, 0), api.ErrCorrupt, 0, 0},
		{"no anchor beside one", anchorOf(8, 9), anchorOf(9, 0)[:7], api.OK, 8, 9},
	} {
		image := make([]byte, sectors*512)
		for i, body := range [][]byte{c.left, c.right} {
			if body != nil {
				lay(image, first+i, body)
			}
		}
		_, l, want := wantOpen(t, c.what, image, first, ring)
		is(t, c.what, want.e, c.e)
		if l != nil {
			marks(t, l, c.epoch, c.tail, c.tail)
		}
	}
	image := make([]byte, sectors*512)
	lay(image, first, anchorOf(3, 7))
	copy(image[first*512+256:], zero[:256]) // torn
	_, _, want := wantOpen(t, "torn", image, first, ring)
	is(t, "torn", want.e, api.ErrCorrupt)
}

func TestP403Top(t *testing.T) {
	for _, c := range []struct {
		what string
		body []byte
		top  int // 0: worn
	}{
		{"a later epoch", part(7, 1, 0, 1, nil), 7},
		{"an earlier epoch", part(1, 1, 0, 1, []byte{1}), 2},
		{"with bytes", part(300, 0, 1, 9, rec(1, 492)), 300},
		{"whatever else it says", part(8, 1<<32-1, 65535, 0, nil), 8},
		{"too short", part(7, 1, 0, 1, nil)[:11], 2},
		{"far too short", part(1<<30, 1, 0, 1, nil)[:4], 2},
		{"epoch 0", part(0, 1, 0, 1, []byte{1}), 2},
		{"the last but one", part(1<<30-1, 1, 0, 1, nil), 1<<30 - 1},
		{"the last", part(1<<30, 1, 0, 1, nil), 0},
		{"above the last", part(1<<30+1, 1, 0, 1, nil), 2},
		{"far above the last", part(1<<32-1, 1, 0, 1, nil), 2},
	} {
		for _, i := range []int{0, 1, 9, ring - 1} { // the ring's first sector, its last one, and between
			image := laid(sectors, first, ring, 2, 0)
			lay(image, first+2+i, c.body)
			_, l, want := wantOpen(t, c.what, image, first, ring)
			if c.top == 0 {
				is(t, c.what, want.e, api.ErrWorn)
				continue
			}
			marks(t, l, 2, 0, 0)
			is(t, "Start", l.Start(), api.OK)
			marks(t, l, c.top+1, 0, 0)
		}
	}
	image := laid(sectors, first, ring, 2, 0)
	lay(image, first-1, part(9, 0, 0, 1, nil))
	lay(image, first+2+ring, part(9, 0, 0, 1, nil))
	lay(image, first+1, part(9, 0, 0, 1, nil)[:4]) // no anchor, and no sector of the ring
	_, l, _ := wantOpen(t, "outside of the ring", image, first, ring)
	is(t, "Start", l.Start(), api.OK)
	marks(t, l, 3, 0, 0)
}

func TestP403Scan(t *testing.T) {
	a, b, c := parts(5, 40, rec('a', 492)), parts(5, 41, rec('b', 985)), parts(5, 44, rec('c', 3))
	all := append(append(append([][]byte{}, a...), b...), c...)
	with := func(i int, body []byte) [][]byte {
		list := append([][]byte{}, all...)
		list[i] = body
		return list
	}
	for _, k := range []struct {
		what   string
		bodies [][]byte
		told   int
		head   int
	}{
		{"all", all, 3, 45},
		{"none", nil, 0, 40},
		{"the first is not there", with(0, nil), 0, 40},
		{"another epoch", with(0, part(4, 40, 0, 1, rec('a', 492))), 0, 40},
		{"a later epoch", with(0, part(6, 40, 0, 1, rec('a', 492))), 0, 40},
		{"an epoch with a high byte", with(0, part(5+1<<24, 40, 0, 1, rec('a', 492))), 0, 40},
		{"another position", with(0, part(5, 41, 0, 1, rec('a', 492))), 0, 40},
		{"the position of the round before", with(0, part(5, 22, 0, 1, rec('a', 492))), 0, 40},
		{"a position with a high byte", with(0, part(5, 40+1<<24, 0, 1, rec('a', 492))), 0, 40},
		{"index 1", with(0, part(5, 40, 1, 1, rec('a', 492))), 0, 40},
		{"index 256", with(0, part(5, 40, 256, 1, rec('a', 492))), 0, 40},
		{"count 0", with(0, part(5, 40, 0, 0, rec('a', 492))), 0, 40},
		{"count 2", with(0, part(5, 40, 0, 2, rec('a', 492))), 0, 40},
		{"count 257", with(0, part(5, 40, 0, 257, rec('a', 492))), 0, 40},
		{"no byte", with(0, part(5, 40, 0, 1, nil)), 0, 40},
		{"one byte", with(0, part(5, 40, 0, 1, []byte{7})), 3, 45},
		{"the second's first sector is not there", with(1, nil), 1, 41},
		{"its second sector is not there", with(2, nil), 1, 41},
		{"its third sector is not there", with(3, nil), 1, 41},
		{"its first sector is short", with(1, part(5, 41, 0, 3, rec('b', 491))), 1, 41},
		{"its second sector is short", with(2, part(5, 42, 1, 3, rec('b', 491))), 1, 41},
		{"its second sector has no byte", with(2, part(5, 42, 1, 3, nil)), 1, 41},
		{"its third sector has no byte", with(3, part(5, 43, 2, 3, nil)), 1, 41},
		{"its third sector is full", with(3, part(5, 43, 2, 3, rec('b', 492))), 3, 45},
		{"its second sector says count 2", with(2, part(5, 42, 1, 2, rec('b', 492))), 1, 41},
		{"its third sector says count 4", with(3, part(5, 43, 2, 4, []byte{1})), 1, 41},
		{"its third sector says index 1", with(3, part(5, 43, 1, 3, []byte{1})), 1, 41},
		{"its second sector says index 0", with(2, part(5, 42, 0, 3, rec('b', 492))), 1, 41},
		{"its third sector is of another epoch", with(3, part(4, 43, 2, 3, []byte{1})), 1, 41},
		{"its third sector says another position", with(3, part(5, 44, 2, 3, []byte{1})), 1, 41},
		{"its first sector says index 1", with(1, part(5, 41, 1, 3, rec('b', 492))), 1, 41},
		{"a first sector within the second", with(2, part(5, 42, 0, 1, []byte{1})), 1, 41},
		{"the third says count 2", with(4, part(5, 44, 0, 2, rec('c', 492))), 2, 44},
	} {
		_, l, want := wantOpen(t, k.what, laid(sectors, first, ring, 5, 40, k.bodies...), first, ring)
		if len(want.records) != k.told {
			t.Errorf("%s: %d records, want %d", k.what, len(want.records), k.told)
		}
		marks(t, l, 5, 40, k.head)
	}
}

func TestP403ScanEdges(t *testing.T) {
	for _, k := range []struct {
		what       string
		tail, size int
		told       int
	}{
		{"17 sectors", 0, 8364, 1},
		{"17 sectors around the end", 12, 8364, 1},
		{"18 sectors", 0, 8365, 0},
		{"behind the last position", 1 << 30, 984, 1},
		{"over the last position", 1<<30 - 1, 984, 1},
	} {
		image := laid(sectors, first, ring, 5, k.tail, parts(5, k.tail, rec('x', k.size))...)
		_, l, want := wantOpen(t, k.what, image, first, ring)
		if len(want.records) != k.told {
			t.Errorf("%s: %d records", k.what, len(want.records))
		}
		if k.told == 1 {
			marks(t, l, 5, k.tail, k.tail+(k.size+491)/492)
		}
	}
	for _, n := range []int{18, 256} {
		for _, tail := range []int{0, 1, n - 1, 3*n + 5} {
			var bodies [][]byte
			for p := range n {
				bodies = append(bodies, part(5, tail+p, 0, 1, []byte{byte(p)}))
			}
			_, l, want := wantOpen(t, "a full ring", laid(n+2, 0, n, 5, tail, bodies...), 0, n)
			if len(want.records) != n {
				t.Errorf("a full ring of %d: %d records", n, len(want.records))
			}
			marks(t, l, 5, tail, tail+n)
		}
	}
}

// What is told is durable, though it was pending.
func TestP403Flush(t *testing.T) {
	d := example(t)
	l := started(t, d, first, ring)
	is(t, "Append", l.Append(rec('a', 3000)), api.OK)
	if d.Counts().Pending != 7 {
		t.Fatalf("%+v", d.Counts())
	}
	was := d.Counts()
	tells(t, d, first, ring, rec('a', 3000))
	wantDid(t, "Open", d, was, 0, 1)
	d.Crash(nil)
	tells(t, d, first, ring, rec('a', 3000))
	was = d.Counts()
	d.Write(first, make([]byte, 512))
	d.Write(first+1, make([]byte, 512))
	_, _, e := wal.Open(d, first, ring)
	is(t, "Open", e, api.ErrCorrupt)
	wantDid(t, "Open with ErrCorrupt", d, was, 2, 0)
	d.Crash(nil)
	is(t, "Start of a log that is dead", l.Start(), api.ErrDead)
	tells(t, d, first, ring, rec('a', 3000))
}

func TestP404Start(t *testing.T) {
	d := example(t)
	l, _ := opened(t, d, first, ring)
	for round := range 5 {
		was, image := d.Counts(), d.Image()
		is(t, "Start", l.Start(), api.OK)
		wantDid(t, "Start", d, was, 1, 1)
		slot, s, _ := seal.Renew(sectorAt(image, first), sectorAt(image, first+1), (round+2)<<32, nil)
		copy(sectorAt(image, first+slot), s)
		if slot != 1-round%2 || d.Counts().Pending != 0 || !bytes.Equal(d.Image(), image) {
			t.Fatalf("round %d: slot %d: the disk behind Start", round, slot)
		}
		marks(t, l, round+2, 0, 0)
		room(t, l, ring)
		was = d.Counts()
		is(t, "Start again", l.Start(), api.ErrBusy)
		is(t, "and again", l.Start(), api.ErrBusy)
		wantDid(t, "Start that is refused", d, was, 0, 0)
		is(t, "Append", l.Append(rec(byte(round), 600)), api.OK)
		is(t, "Start behind it", l.Start(), api.ErrBusy)
		marks(t, l, round+2, 0, 2)
		l = tells(t, d, first, ring, rec(byte(round), 600))
		marks(t, l, round+2, 0, 2)
	}
}

// Without a Start an Open tells the same again and again, and no epoch is used up.
func TestP404NotStarted(t *testing.T) {
	d := example(t)
	l := started(t, d, first, ring)
	is(t, "Append", l.Append(rec('a', 600)), api.OK)
	is(t, "Sync", l.Sync(), api.OK)
	for range 3 {
		d.Crash([]api.Pick{keep})
		l = tells(t, d, first, ring, rec('a', 600))
		marks(t, l, 2, 0, 2)
	}
	is(t, "Start", l.Start(), api.OK)
	marks(t, l, 3, 0, 0)
	d.Crash(nil)
	l = tells(t, d, first, ring)
	marks(t, l, 3, 0, 0)
}

// The last epoch can be had, and is the last.
func TestP404LastEpoch(t *testing.T) {
	d, l, _ := wantOpen(t, "the last but one", laid(sectors, first, ring, 1<<30-1, 5), first, ring)
	is(t, "Start", l.Start(), api.OK)
	marks(t, l, 1<<30, 0, 0)
	is(t, "Append", l.Append(rec('a', 600)), api.OK)
	is(t, "Trim", l.Trim(), api.OK)
	marks(t, l, 1<<30, 2, 2)
	l, records, e := wal.Open(d, first, ring)
	if l != nil || len(records) != 0 || e != api.ErrWorn {
		t.Errorf("Open behind the last epoch: %v", e)
	}
}

func TestP405NotStarted(t *testing.T) {
	d := example(t)
	l, _ := opened(t, d, first, ring)
	was := d.Counts()
	for _, data := range [][]byte{{1}, nil, make([]byte, 8365)} {
		is(t, "Append", l.Append(data), api.ErrEnded)
	}
	is(t, "Sync", l.Sync(), api.ErrEnded)
	is(t, "Trim", l.Trim(), api.ErrEnded)
	r, e := l.Room()
	if r != 0 || e != api.ErrEnded {
		t.Errorf("Room: %d, %v", r, e)
	}
	wantDid(t, "a log that was not started", d, was, 0, 0)
	marks(t, l, 1, 0, 0)
}

// wantRing asks that the record lies in the ring from that position on, sealed over what lay there.
func wantRing(t *testing.T, d *disk.Disk, old []byte, epoch, position int, data []byte) {
	t.Helper()
	for i, body := range parts(epoch, position, data) {
		at := first + 2 + (position+i)%ring
		want, _ := seal.Seal(sectorAt(old, at), body)
		if got, e := d.Read(at); e != api.OK || !bytes.Equal(got, want) {
			t.Fatalf("position %d, sector %d: %v, want %v", position+i, at, got[:24], want[:24])
		}
	}
}

// held is what the disk holds now.
func held(t *testing.T, d *disk.Disk) []byte {
	t.Helper()
	var image []byte
	for at := range d.Sectors() {
		s, e := d.Read(at)
		is(t, "Read", e, api.OK)
		image = append(image, s...)
	}
	return image
}

func TestP406Append(t *testing.T) {
	d := example(t)
	l := started(t, d, first, ring)
	tail, head := 0, 0
	for round, size := range []int{1, 492, 493, 984, 985, 5, 8364, 3000, 8364, 1, 8364, 2, 492 * 17, 7000, 2 * 492} {
		count := (size + 491) / 492
		if ring-(head-tail) < count {
			is(t, "Trim", l.Trim(), api.OK)
			tail = head
		}
		data := rec(byte(round), size)
		old, was := held(t, d), d.Counts()
		is(t, "Append", l.Append(data), api.OK)
		wantDid(t, "Append", d, was, count, 0)
		wantRing(t, d, old, 2, head, data)
		now := held(t, d)
		for at := range sectors {
			if written := (at-first-2-head%ring+2*ring)%ring < count && at >= first+2 && at < first+2+ring; !written && !bytes.Equal(sectorAt(now, at), sectorAt(old, at)) {
				t.Fatalf("sector %d was written by the record at %d of %d sectors", at, head, count)
			}
		}
		head += count
		marks(t, l, 2, tail, head)
		room(t, l, ring-(head-tail))
	}
}

// The order of the writes shows where the power goes between.
func TestP406Order(t *testing.T) {
	for calls := range 8 {
		d := example(t)
		l := started(t, d, first, ring)
		is(t, "Append", l.Append(rec('a', 15*492)), api.OK)
		is(t, "Trim", l.Trim(), api.OK)
		was, old := d.Counts(), d.Image()
		d.Fuse(calls)
		e := l.Append(rec('b', 6*492+1)) // positions 15 to 21: around the ring's end
		if (calls >= 7) != (e == api.OK) || e != api.OK && e != api.ErrDead {
			t.Fatalf("Append with %d calls: %v", calls, e)
		}
		wantDid(t, "Append", d, was, calls, 0)
		d.Crash([]api.Pick{keep})
		now := d.Image()
		for i, body := range parts(2, 15, rec('b', 6*492+1))[:calls] {
			lay(old, first+2+(15+i)%ring, body)
		}
		if !bytes.Equal(now, old) {
			t.Fatalf("the disk behind %d writes", calls)
		}
	}
}

func TestP406Errors(t *testing.T) {
	d := example(t)
	l := started(t, d, first, ring)
	for _, c := range []struct {
		size, taken int
		e           api.Errno
	}{
		{0, 0, api.ErrLength}, {8365, 0, api.ErrLong}, {1 << 20, 0, api.ErrLong}, {8364, 17, api.OK},
		{493, 0, api.ErrFull}, {8364, 0, api.ErrFull}, {8365, 0, api.ErrLong}, {492, 1, api.OK},
		{1, 0, api.ErrFull}, {0, 0, api.ErrLength}, {8365, 0, api.ErrLong},
	} {
		was, old := d.Counts(), held(t, d)
		_, tail, head, _ := l.Marks()
		is(t, "Append", l.Append(make([]byte, c.size)), c.e)
		marks(t, l, 2, tail, head+c.taken)
		if c.e != api.OK {
			wantDid(t, "Append that is refused", d, was, 0, 0)
			if !bytes.Equal(held(t, d), old) {
				t.Errorf("Append of %d changed the disk", c.size)
			}
		}
	}
	is(t, "Trim", l.Trim(), api.OK)
	is(t, "Append of nil", l.Append(nil), api.ErrLength)
	is(t, "Append of nothing", l.Append([]byte{}), api.ErrLength)
	is(t, "Append", l.Append([]byte{0}), api.OK)
	tells(t, d, first, ring, []byte{0})
}

func TestP407Sync(t *testing.T) {
	d := example(t)
	l := started(t, d, first, ring)
	for range 3 {
		was := d.Counts()
		is(t, "Sync", l.Sync(), api.OK)
		wantDid(t, "Sync of nothing", d, was, 0, 1)
	}
	is(t, "Append", l.Append(rec('a', 3000)), api.OK)
	was, now := d.Counts(), held(t, d)
	is(t, "Sync", l.Sync(), api.OK)
	wantDid(t, "Sync", d, was, 0, 1)
	marks(t, l, 2, 0, 7)
	if d.Counts().Pending != 0 || !bytes.Equal(d.Image(), now) {
		t.Error("the disk behind Sync")
	}
	if d.Counts().Reads != was.Reads+sectors {
		t.Error("Sync reads")
	}
	is(t, "Append", l.Append(rec('b', 5)), api.OK)
	d.Crash(nil)
	tells(t, d, first, ring, rec('a', 3000))
}

func TestP408Trim(t *testing.T) {
	d := example(t)
	l := started(t, d, first, ring)
	head := 0
	for round := range 6 {
		is(t, "Append", l.Append(rec('a', 3000)), api.OK)
		is(t, "Append", l.Append(rec('b', 30)), api.OK)
		head += 8
		was, image := d.Counts(), held(t, d)
		is(t, "Trim", l.Trim(), api.OK)
		wantDid(t, "Trim", d, was, 1, 2)
		slot, s, _ := seal.Renew(sectorAt(image, first), sectorAt(image, first+1), 2<<32+head, nil)
		copy(sectorAt(image, first+slot), s)
		if slot != round%2 || d.Counts().Pending != 0 || !bytes.Equal(d.Image(), image) {
			t.Fatalf("round %d: slot %d: the disk behind Trim", round, slot)
		}
		marks(t, l, 2, head, head)
		room(t, l, ring)
		was = d.Counts()
		is(t, "Trim of nothing", l.Trim(), api.OK)
		wantDid(t, "Trim of nothing", d, was, 0, 1)
		marks(t, l, 2, head, head)
	}
	d.Crash(nil)
	l = tells(t, d, first, ring)
	marks(t, l, 2, head, head)
}

// The records are durable ahead of the anchor: so a Trim that is cut leaves all of them, or none.
func TestP408Order(t *testing.T) {
	for calls, want := range [][2]int{{0, 2}, {2, 2}, {2, 0}, {0, 0}} { // records that are told with all lost, with all kept
		for i, pick := range []api.Pick{lose, keep} {
			d := example(t)
			l := started(t, d, first, ring)
			is(t, "Append", l.Append(rec('a', 3000)), api.OK)
			is(t, "Append", l.Append(rec('b', 30)), api.OK)
			d.Fuse(calls)
			wantE := api.ErrDead
			if calls == 3 {
				wantE = api.OK
			}
			is(t, "Trim", l.Trim(), wantE)
			is(t, "Trim again", l.Trim(), api.ErrDead)
			d.Crash([]api.Pick{pick})
			if _, records := opened(t, d, first, ring); len(records) != want[i] {
				t.Errorf("cut behind %d calls, %v: %d records, want %d", calls, pick, len(records), want[i])
			}
		}
	}
	d := example(t)
	l := started(t, d, first, ring)
	d.Fuse(1)
	is(t, "Trim of nothing is one Flush", l.Trim(), api.OK)
	is(t, "and the disk is burnt", l.Trim(), api.ErrDead)
}

func TestP409Room(t *testing.T) {
	d := formatted(t, 258, 0, 256)
	l := started(t, d, 0, 256)
	room(t, l, 256)
	free := 256
	for _, size := range []int{1, 492, 493, 8364, 8364, 3000} {
		is(t, "Append", l.Append(rec('r', size)), api.OK)
		free -= (size + 491) / 492
		was := d.Counts()
		room(t, l, free)
		if d.Counts() != was {
			t.Error("Room asks the disk")
		}
	}
	is(t, "Sync", l.Sync(), api.OK)
	room(t, l, free)
	is(t, "Append", l.Append(nil), api.ErrLength)
	room(t, l, free)
	is(t, "Trim", l.Trim(), api.OK)
	room(t, l, 256)
}

func TestP410Marks(t *testing.T) {
	image := laid(sectors, first, ring, 70000, 70001, parts(70000, 70001, rec('m', 1000))...)
	d, l, _ := wantOpen(t, "Marks", image, first, ring)
	was := d.Counts()
	marks(t, l, 70000, 70001, 70004)
	marks(t, l, 70000, 70001, 70004)
	if d.Counts() != was {
		t.Error("Marks asks the disk")
	}
	is(t, "Start", l.Start(), api.OK)
	marks(t, l, 70001, 0, 0)
	is(t, "Append", l.Append(rec('a', 493)), api.OK)
	marks(t, l, 70001, 0, 2)
	is(t, "Sync", l.Sync(), api.OK)
	marks(t, l, 70001, 0, 2)
	is(t, "Trim", l.Trim(), api.OK)
	marks(t, l, 70001, 2, 2)
}

// wantDead asks that every call of a log answers ErrDead, ahead of all else, and does nothing.
func wantDead(t *testing.T, what string, d *disk.Disk, l *wal.Log) {
	t.Helper()
	was, image := d.Counts(), d.Image()
	is(t, what+": Start", l.Start(), api.ErrDead)
	for _, data := range [][]byte{{1}, nil, make([]byte, 8364), make([]byte, 9000)} {
		is(t, what+": Append", l.Append(data), api.ErrDead)
	}
	is(t, what+": Sync", l.Sync(), api.ErrDead)
	is(t, what+": Trim", l.Trim(), api.ErrDead)
	if a, b, c, e := l.Marks(); a != 0 || b != 0 || c != 0 || e != api.ErrDead {
		t.Fatalf("%s: Marks %d, %d, %d, %v", what, a, b, c, e)
	}
	if r, e := l.Room(); r != 0 || e != api.ErrDead {
		t.Fatalf("%s: Room %d, %v", what, r, e)
	}
	if d.Counts() != was || !bytes.Equal(d.Image(), image) {
		t.Fatalf("%s: a dead log asks the disk: %+v, was %+v", what, d.Counts(), was)
	}
}

func TestP411Dead(t *testing.T) {
	for _, c := range []struct {
		what string
		ends func(d *disk.Disk)
	}{
		{"a cut", func(d *disk.Disk) { d.Crash(nil) }},
		{"a new life", func(d *disk.Disk) { d.Take() }},
		{"another Open", func(d *disk.Disk) { wal.Open(d, first, ring) }},
		{"another Open elsewhere", func(d *disk.Disk) { wal.Open(d, 40, ring) }},
		{"an Open that is refused", func(d *disk.Disk) { wal.Open(d, 8, ring) }},
		{"another Format elsewhere", func(d *disk.Disk) { wal.Format(d, 40, ring) }},
		{"a burnt disk", func(d *disk.Disk) { d.Fuse(0) }},
		{"a fuse", func(d *disk.Disk) { d.Fuse(1); d.Flush() }},
	} {
		for _, begun := range []bool{false, true} {
			d := formatted(t, 64, 40, ring)
			is(t, "Format", wal.Format(d, first, ring), api.OK)
			l, _ := opened(t, d, first, ring)
			if begun {
				is(t, "Start", l.Start(), api.OK)
				is(t, "Append", l.Append(rec('a', 17*492)), api.OK)
			}
			c.ends(d)
			wantDead(t, c.what, d, l)
			d.Crash(nil) // the power comes again, and the log stays dead
			wantDead(t, c.what+" and a cut", d, l)
			opened(t, d, first, ring)
			wantDead(t, c.what+", a cut and another Open", d, l)
		}
	}
}

// Every call that writes or flushes, with each number of calls that the fuse lets through.
func TestP411Refused(t *testing.T) {
	for _, c := range []struct {
		what  string
		calls int
		do    func(l *wal.Log) api.Errno
	}{
		{"Append of one sector", 1, func(l *wal.Log) api.Errno { return l.Append(rec('x', 492)) }},
		{"Append of nine sectors", 9, func(l *wal.Log) api.Errno { return l.Append(rec('x', 9*492)) }},
		{"Sync", 1, (*wal.Log).Sync},
		{"Trim", 3, (*wal.Log).Trim},
	} {
		for calls := range c.calls + 3 {
			d := example(t)
			l := started(t, d, first, ring)
			is(t, "Append", l.Append(rec('a', 600)), api.OK)
			was := d.Counts()
			d.Fuse(calls)
			e := c.do(l)
			if want := api.ErrDead; calls < c.calls {
				is(t, c.what, e, want)
			} else {
				is(t, c.what, e, api.OK)
			}
			if got := did(d, was); got[0]+got[1] != min(calls, c.calls) {
				t.Fatalf("%s with %d calls: %v", c.what, calls, got)
			}
			if calls <= c.calls {
				wantDead(t, c.what, d, l)
			}
		}
	}
	for calls := range 4 {
		d := example(t)
		l, _ := opened(t, d, first, ring)
		d.Fuse(calls)
		if e := l.Start(); (e == api.OK) != (calls >= 2) || e != api.OK && e != api.ErrDead {
			t.Fatalf("Start with %d calls: %v", calls, e)
		}
	}
}

func TestP415Reads(t *testing.T) {
	for _, n := range []int{18, 19, 256} {
		d := formatted(t, n+2, 0, n)
		reads := func(what string, do func() api.Errno) {
			t.Helper()
			was := d.Counts()
			is(t, what, do(), api.OK)
			if c := d.Counts(); c.Reads-was.Reads > 2*(n+2) || c.Refused != 0 {
				t.Errorf("%s with %d: %d reads, %d refused", what, n, c.Reads-was.Reads, c.Refused)
			}
		}
		var l *wal.Log
		for range 20 {
			reads("Open", func() api.Errno {
				var e api.Errno
				l, _, e = wal.Open(d, 0, n)
				return e
			})
			reads("Start", func() api.Errno { return l.Start() })
			for range 5 {
				reads("Append", func() api.Errno { return l.Append(rec('a', 8364)) })
				reads("Trim", func() api.Errno { return l.Trim() })
			}
		}
	}
}

func scribble(list []byte) {
	whole := list[:cap(list)]
	for i := range whole {
		whole[i] ^= 0xA5
	}
}

func TestP2Memory(t *testing.T) {
	d := example(t)
	l := started(t, d, first, ring)
	want := [][]byte{rec('a', 492), rec('b', 1), rec('c', 3000), rec('d', 500)}
	for _, r := range want {
		roomy := append(bytes.Clone(r), bytes.Repeat([]byte{0xEE}, 600)...)
		before := bytes.Clone(roomy)
		is(t, "Append", l.Append(roomy[:len(r)]), api.OK)
		if !bytes.Equal(roomy, before) {
			t.Fatal("Append changes what it is handed")
		}
		scribble(roomy)
	}
	for range 2 {
		_, records := opened(t, d, first, ring)
		for i := range records {
			if !bytes.Equal(records[i], want[i]) {
				t.Fatalf("record %d is not what was appended", i)
			}
			scribble(records[i]) // the others and the disk see none of it
		}
		clear(records[:cap(records)])
	}
	tells(t, d, first, ring, want...)
}

// Where a disk is written beside an open log nothing is promised but that every call ends, and asks for no sector that the disk has not.
func TestP9WrittenBeside(t *testing.T) {
	dice := newDice(9)
	for range 300 {
		d := formatted(t, ring+2, 0, ring)
		l, _ := opened(t, d, 0, ring)
		if dice.below(2) == 0 {
			is(t, "Start", l.Start(), api.OK)
		}
		for range 6 {
			at := dice.below(ring + 2)
			old, _ := d.Read(at)
			s, _ := seal.Seal(old, one(dice, anchorOf(dice.below(1<<31), dice.below(1<<30), dice.bytes(dice.below(2))...), part(2, dice.below(9), 0, 1, nil), dice.bytes(9)))
			d.Write(at, one(dice, s, dice.bytes(512), make([]byte, 512)))
			l.Append(dice.bytes(dice.below(9000)))
			l.Trim()
			l.Sync()
			l.Room()
			l.Marks()
			l.Start()
		}
		if c := d.Counts(); c.Refused != 0 {
			t.Fatalf("%+v", c)
		}
	}
}
