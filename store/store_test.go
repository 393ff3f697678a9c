package store_test

import (
	"bytes"
	"math"
	"testing"

	"vellum/api"
	"vellum/codec"
	"vellum/disk"
	"vellum/seal"
	"vellum/store"
	"vellum/wal"
)

// The store of the chapter's examples: Home 21, Blocks 43.
var small = api.Super{Sectors: 64, Log: 18, Nodes: 8}

const home, blocks = 21, 43

// keep and lose are picks of a sector with one pending write.
var (
	keep = api.Pick{A: 1, B: 1}
	lose = api.Pick{}
)

func is(t *testing.T, what string, got, want api.Errno) {
	t.Helper()
	if got != want {
		t.Fatalf("%s: %v, want %v", what, got, want)
	}
}

// fill is a block of 512 bytes x.
func fill(x byte) []byte { return bytes.Repeat([]byte{x}, 512) }

func blank(t *testing.T, sectors int) *disk.Disk {
	t.Helper()
	d, e := disk.New(sectors)
	is(t, "New", e, api.OK)
	return d
}

func loaded(t *testing.T, image []byte) *disk.Disk {
	t.Helper()
	d, e := disk.Load(image)
	is(t, "Load", e, api.OK)
	return d
}

func formatted(t *testing.T, s api.Super) *disk.Disk {
	t.Helper()
	d := blank(t, s.Sectors)
	is(t, "Format", store.Format(d, s), api.OK)
	return d
}

func opened(t *testing.T, d *disk.Disk) *store.Store {
	t.Helper()
	s, e := store.Open(d)
	if s == nil || e != api.OK {
		t.Fatalf("Open: a store %v, %v", s != nil, e)
	}
	return s
}

// laid is a disk with the store of the examples, opened.
func laid(t *testing.T) (*disk.Disk, *store.Store) {
	t.Helper()
	d := formatted(t, small)
	return d, opened(t, d)
}

func begun(t *testing.T, s *store.Store) *store.Tx {
	t.Helper()
	x, e := s.Begin()
	if x == nil || e != api.OK {
		t.Fatalf("Begin: a transaction %v, %v", x != nil, e)
	}
	return x
}

// commit is a transaction that fills blocks: a number of a block, and its byte.
func commit(t *testing.T, s *store.Store, pairs ...int) {
	t.Helper()
	x := begun(t, s)
	for i := 0; i < len(pairs); i += 2 {
		is(t, "Put", x.Put(pairs[i], fill(byte(pairs[i+1]))), api.OK)
	}
	is(t, "Commit", x.Commit(), api.OK)
}

// sees asks that a transaction sees a block filled with that byte.
func sees(t *testing.T, x *store.Tx, block int, want byte) {
	t.Helper()
	data, e := x.Get(block)
	if e != api.OK || !bytes.Equal(data, fill(want)) {
		t.Fatalf("Get(%d): % x .. (%d bytes), %v, want %d all over", block, data[:min(len(data), 4)], len(data), e, want)
	}
}

// holds asks that the store's first blocks are filled with these bytes.
func holds(t *testing.T, s *store.Store, want ...byte) {
	t.Helper()
	x := begun(t, s)
	for b, c := range want {
		sees(t, x, b, c)
	}
	is(t, "Abort", x.Abort(), api.OK)
}

// did asks how many writes and flushes were made since, and that the disk had all that it was asked for.
func did(t *testing.T, what string, d *disk.Disk, was api.Counts, writes, flushes int) {
	t.Helper()
	c := d.Counts()
	if c.Writes-was.Writes != writes || c.Flushes-was.Flushes != flushes || c.Refused != was.Refused {
		t.Fatalf("%s: %+v behind %+v, want %d writes and %d flushes", what, c, was, writes, flushes)
	}
}

func TestP501Refused(t *testing.T) {
	d := blank(t, 64)
	d.Write(3, fill('p'))
	image := d.Image()
	refused := func(what string, s api.Super, want api.Errno) {
		t.Helper()
		was, life := d.Counts(), d.Life()
		is(t, what, store.Format(d, s), want)
		if d.Counts() != was || d.Life() != life || !bytes.Equal(d.Image(), image) {
			t.Fatalf("%s is refused and changes something", what)
		}
	}
	for _, s := range []api.Super{
		{}, {Sectors: 63, Log: 18, Nodes: 8}, {Sectors: 65, Log: 18, Nodes: 8}, {Sectors: 64, Log: 17, Nodes: 8}, {Sectors: 64, Log: 257, Nodes: 8},
		{Sectors: 64, Log: 18}, {Sectors: 64, Log: 18, Nodes: 6}, {Sectors: 64, Log: 18, Nodes: 1028}, {Sectors: 64, Log: 18, Nodes: 164},
		{Sectors: 64, Log: 60, Nodes: 4}, {Sectors: -64, Log: 18, Nodes: 8}, {Sectors: math.MaxInt, Log: math.MinInt, Nodes: math.MaxInt}, {Sectors: 2048, Log: 18, Nodes: 8},
	} {
		refused("Format", s, api.ErrGeometry)
	}
	d.Fuse(0)
	refused("Format of a burnt disk", small, api.ErrDead)
	refused("Format of a burnt disk, wrong numbers", api.Super{}, api.ErrDead)
}

// The sectors of a fresh store: the superblock, an anchor of epoch 1, zeros.
func freshImage(s api.Super) []byte {
	image := make([]byte, s.Sectors*512)
	super, _ := codec.EncodeSuper(s)
	copy(image, super)
	_, anchor, _ := seal.Renew(make([]byte, 512), make([]byte, 512), 1<<32, nil)
	copy(sectorAt(image, 1), anchor)
	return image
}

func TestP501Image(t *testing.T) {
	dice := newDice(501)
	for _, s := range []api.Super{small, {Sectors: 25, Log: 18, Nodes: 4}, {Sectors: 64, Log: 18, Nodes: 156}, {Sectors: 300, Log: 256, Nodes: 8}, {Sectors: 2048, Log: 256, Nodes: 1024}} {
		d := loaded(t, dice.bytes(s.Sectors*512))
		d.Write(s.Sectors-1, fill('p'))
		was, life := d.Counts(), d.Life()
		is(t, "Format", store.Format(d, s), api.OK)
		did(t, "Format", d, was, 1+(s.Sectors-1)+(s.Log+2)+1+1, 1+1+2+1)
		if !bytes.Equal(d.Image(), freshImage(s)) || d.Counts().Pending != 0 || d.Life() == life {
			t.Errorf("%+v: the image is right: %v; %+v; life %d", s, bytes.Equal(d.Image(), freshImage(s)), d.Counts(), d.Life())
		}
		st := opened(t, d)
		x := begun(t, st)
		for b := range st.Layout().Blocks {
			sees(t, x, b, 0)
		}
	}
}

// Each call of Format comes where the promise has it: the disk is burnt behind every one, and all that was pending kept.
func TestP501Order(t *testing.T) {
	full := newDice(1).bytes(64 * 512)
	want := bytes.Clone(full)
	type stage struct {
		at   int // -1: a flush
		data []byte
	}
	fresh := freshImage(small)
	stages := []stage{{0, fill(0)}, {-1, nil}}
	for at := 1; at < 64; at++ {
		stages = append(stages, stage{at, fill(0)})
	}
	stages = append(stages, stage{-1, nil})
	for at := 1; at < 21; at++ {
		stages = append(stages, stage{at, fill(0)})
	}
	stages = append(stages, stage{-1, nil}, stage{1, sectorAt(fresh, 1)}, stage{-1, nil}, stage{0, sectorAt(fresh, 0)}, stage{-1, nil})
	for calls := 0; calls <= len(stages); calls++ {
		if calls > 0 && stages[calls-1].at >= 0 {
			copy(sectorAt(want, stages[calls-1].at), stages[calls-1].data)
		}
		d := loaded(t, full)
		d.Fuse(calls)
		e, flushed := store.Format(d, small), 0
		if done := calls == len(stages); done != (e == api.OK) || e != api.OK && e != api.ErrDead {
			t.Fatalf("Format with %d calls: %v", calls, e)
		}
		for _, s := range stages[:calls] {
			if s.at < 0 {
				flushed++
			}
		}
		did(t, "Format", d, api.Counts{}, calls-flushed, flushed)
		if (d.Life() == 1) != (calls == 0) {
			t.Fatalf("Format with %d calls: life %d", calls, d.Life())
		}
		d.Crash([]api.Pick{keep})
		if at := unlike(d.Image(), want); at >= 0 {
			t.Fatalf("Format with %d calls: sector %d is not as it should be", calls, at)
		}
	}
}

func TestP501Dead(t *testing.T) {
	d, s := laid(t)
	x := begun(t, s)
	is(t, "Format", store.Format(d, api.Super{}), api.ErrGeometry)
	is(t, "a refused Format leaves the store alone", x.State(), api.OK)
	is(t, "Format", store.Format(d, small), api.OK)
	wantDead(t, "a Format", d, s, x)
}

func TestP502Superblock(t *testing.T) {
	image := formatted(t, small).Image()
	refused := func(what string, d *disk.Disk, want api.Errno) {
		t.Helper()
		d.Write(d.Sectors()-1, fill('p'))
		was, life, before := d.Counts(), d.Life(), d.Image()
		if want == api.ErrDead {
			d.Fuse(0)
		}
		s, e := store.Open(d)
		is(t, what, e, want)
		did(t, what, d, was, 0, 0)
		if s != nil || d.Life() != life || !bytes.Equal(d.Image(), before) {
			t.Fatalf("%s: a store %v, life %d behind %d", what, s != nil, d.Life(), life)
		}
	}
	for bit := range 512 * 8 {
		if bit > 40*8 && bit < 500*8 && bit%37 != 0 {
			continue
		}
		bad := bytes.Clone(image)
		bad[bit/8] ^= 1 << (bit % 8)
		refused("a bit of the superblock", loaded(t, bad), api.ErrCorrupt)
	}
	refused("zeros", blank(t, 64), api.ErrCorrupt)
	refused("one sector", blank(t, 1), api.ErrCorrupt)
	refused("a superblock alone", loaded(t, image[:512]), api.ErrCorrupt)
	refused("one sector less", loaded(t, image[:63*512]), api.ErrCorrupt)
	refused("one sector more", loaded(t, append(bytes.Clone(image), fill(0)...)), api.ErrCorrupt)
	refused("a burnt disk", loaded(t, image), api.ErrDead)
	refused("a burnt disk of zeros", blank(t, 64), api.ErrDead)
	d := loaded(t, image)
	s := opened(t, d)
	super, _ := d.Read(0)
	d.Write(0, fill(0))
	if _, e := store.Open(d); e != api.ErrCorrupt {
		t.Fatalf("Open: %v", e)
	}
	d.Write(0, super)
	is(t, "Sync: an Open that finds no superblock ends no life", s.Sync(), api.OK)
}

// seals lays a body into a sector of an image.
func seals(t *testing.T, image []byte, at int, body []byte) {
	t.Helper()
	s, e := seal.Seal(sectorAt(image, at), body)
	is(t, "Seal", e, api.OK)
	copy(sectorAt(image, at), s)
}

// number32 are the four bytes of a number.
func number32(n int) []byte { return []byte{byte(n), byte(n >> 8), byte(n >> 16), byte(n >> 24)} }

func TestP502LogRefuses(t *testing.T) {
	image := formatted(t, small).Image()
	anchor := func(epoch, tail int) []byte { return append(number32(tail), number32(epoch)...) }
	for _, c := range []struct {
		what string
		at   int
		body []byte
		want api.Errno
	}{
		{"no anchor", 1, []byte{1, 2, 3}, api.ErrCorrupt},
		{"an anchor with data", 1, append(anchor(1, 0), 7), api.ErrCorrupt},
		{"epoch 0", 1, anchor(0, 5), api.ErrCorrupt},
		{"an epoch too far", 1, anchor(1<<30+1, 0), api.ErrCorrupt},
		{"a tail too far", 1, anchor(1, 1<<30+1), api.ErrCorrupt},
		{"the last epoch", 1, anchor(1<<30, 0), api.ErrWorn},
		{"the last epoch in the ring", 9, append(number32(1<<30), fill('r')[:8]...), api.ErrWorn},
		{"the last epoch but one", 1, anchor(1<<30-1, 0), api.OK},
		{"a far tail", 1, anchor(1, 1<<30), api.OK},
	} {
		bad := bytes.Clone(image)
		seals(t, bad, c.at, c.body)
		d := loaded(t, bad)
		life := d.Life()
		s, e := store.Open(d)
		is(t, c.what, e, c.want)
		if (s != nil) != (e == api.OK) || d.Life() == life {
			t.Errorf("%s: a store %v, life %d behind %d", c.what, s != nil, d.Life(), life)
		}
		if e != api.OK {
			did(t, c.what, d, api.Counts{}, 0, 0)
		} else {
			holds(t, s, 0, 0, 0)
		}
	}
}

// withRecords is a disk with a store whose log holds just these records.
func withRecords(t *testing.T, super api.Super, records ...[]byte) *disk.Disk {
	t.Helper()
	d := formatted(t, super)
	l, _, e := wal.Open(d, 1, super.Log)
	is(t, "wal.Open", e, api.OK)
	is(t, "wal.Start", l.Start(), api.OK)
	for _, r := range records {
		is(t, "wal.Append", l.Append(r), api.OK)
	}
	return d
}

// record is that of a transaction: the blocks in this order, filled with unlike bytes.
func record(numbers ...int) []byte {
	r := []byte{byte(len(numbers)), 0}
	for _, n := range numbers {
		r = append(r, number32(n)...)
	}
	for i := range numbers {
		r = append(r, fill(byte('a'+i))...)
	}
	return r
}

func upTo(n int) []int {
	var list []int
	for i := range n {
		list = append(list, i)
	}
	return list
}

func TestP502Records(t *testing.T) {
	count := func(c int, r []byte) []byte {
		r[0], r[1] = byte(c), byte(c>>8)
		return r
	}
	for _, c := range []struct {
		what string
		r    []byte
		e    api.Errno
	}{
		{"one block", record(7), api.OK},
		{"the first and the last block", record(0, 42), api.OK},
		{"sixteen blocks", record(upTo(16)...), api.OK},
		{"seventeen blocks in the length of sixteen", count(17, record(upTo(16)...)), api.ErrCorrupt},
		{"one byte", []byte{1}, api.ErrCorrupt},
		{"no block", []byte{0, 0}, api.ErrCorrupt},
		{"no block, and bytes", append([]byte{0, 0}, fill(1)...), api.ErrCorrupt},
		{"no block said, one there", count(0, record(7)), api.ErrCorrupt},
		{"two said, one there", count(2, record(7)), api.ErrCorrupt},
		{"one said, two there", count(1, record(7, 8)), api.ErrCorrupt},
		{"a count with a high byte", count(257, record(7)), api.ErrCorrupt},
		{"the number alone", record(7)[:6], api.ErrCorrupt},
		{"half a number", record(7)[:4], api.ErrCorrupt},
		{"a byte too few", record(7)[:517], api.ErrCorrupt},
		{"a byte too many", append(record(7), 0), api.ErrCorrupt},
		{"a block too far", record(43), api.ErrCorrupt},
		{"a block too far behind others", record(1, 2, 43), api.ErrCorrupt},
		{"a block far too far", record(1 << 24), api.ErrCorrupt},
		{"a block below 0", record(-1), api.ErrCorrupt},
		{"a block whose number's highest bit is set", record(7 | -1<<31), api.ErrCorrupt},
		{"a block twice", record(7, 7), api.ErrCorrupt},
		{"falling numbers", record(8, 7), api.ErrCorrupt},
		{"falling numbers at the end", record(1, 2, 9, 8), api.ErrCorrupt},
		{"the longest record", make([]byte, 8364), api.ErrCorrupt},
	} {
		alone := withRecords(t, small, c.r)
		is(t, "Flush", alone.Flush(), api.OK)
		wantRecovered(t, c.what, alone, c.e, c.r)
		if len(c.r) > 600 { // the ring has not the room
			continue
		}
		good := record(3, 5)
		wantRecovered(t, c.what+", behind a good one", withRecords(t, small, good, c.r), c.e, good, c.r)
		wantRecovered(t, c.what+", ahead of good ones", withRecords(t, small, c.r, good, good), c.e, c.r, good, good)
	}
}

// wantRecovered opens the store, and asks that all records came home, or that nothing was written.
func wantRecovered(t *testing.T, what string, d *disk.Disk, want api.Errno, records ...[]byte) {
	t.Helper()
	was, life := d.Counts(), d.Life()
	s, e := store.Open(d)
	is(t, what, e, want)
	if d.Life() == life {
		t.Fatalf("%s: the life goes on", what)
	}
	if want != api.OK {
		did(t, what, d, was, 0, 1) // the log's Open has a flush
		if s != nil {
			t.Fatalf("%s: a store beside an error", what)
		}
		return
	}
	last := map[int][]byte{}
	for _, r := range records {
		numbers, contents := blocksOf(r, blocks)
		for i, b := range numbers {
			last[b] = contents[i]
		}
	}
	did(t, what, d, was, len(last)+1, 3)
	for b := range blocks {
		want := last[b]
		if want == nil {
			want = fill(0)
		}
		if !bytes.Equal(sectorAt(d.Image(), home+b), want) {
			t.Fatalf("%s: block %d is not home", what, b)
		}
	}
}

func TestP502Order(t *testing.T) {
	// the last record that names a block counts, and the blocks go home in the order of their numbers
	records := [][]byte{record(5, 9, 30), record(2, 9), record(9, 40)}
	d := withRecords(t, small, records...)
	is(t, "Flush", d.Flush(), api.OK)
	image := d.Image()
	homes := []struct {
		block int
		x     byte
	}{{2, 'a'}, {5, 'a'}, {9, 'a'}, {30, 'c'}, {40, 'b'}}
	for calls := range 1 + 5 + 1 + 2 + 1 { // the log's flush, the homes, the flush, Start
		d := loaded(t, image)
		d.Fuse(calls)
		_, e := store.Open(d)
		if done := calls == 9; done != (e == api.OK) || e != api.OK && e != api.ErrDead {
			t.Fatalf("Open with %d calls: %v", calls, e)
		}
		if calls <= 6 && !bytes.Equal(d.Image(), image) {
			t.Fatalf("Open with %d calls: something is durable ahead of the flush", calls)
		}
		d.Crash([]api.Pick{keep})
		want := bytes.Clone(image)
		for i, h := range homes {
			if i < calls-1 {
				copy(sectorAt(want, home+h.block), fill(h.x))
			}
		}
		if calls >= 8 { // epoch 2 stood in slot 1
			seals(t, want, 1, append(number32(0), number32(3)...))
		}
		if at := unlike(d.Image(), want); at >= 0 {
			t.Fatalf("Open with %d calls: sector %d is not as it should be", calls, at)
		}
	}
}

func TestP502Empty(t *testing.T) {
	d := formatted(t, small)
	was := d.Counts()
	s := opened(t, d)
	did(t, "Open of an empty log", d, was, 1, 2)
	commit(t, s, 1, 'x')
	is(t, "Checkpoint", s.Checkpoint(), api.OK)
	was = d.Counts()
	s = opened(t, d)
	did(t, "Open behind a checkpoint", d, was, 1, 2)
	holds(t, s, 0, 'x')
	was = d.Counts()
	is(t, "Checkpoint", s.Checkpoint(), api.OK)
	did(t, "Checkpoint: the overlay is empty behind Open", d, was, 0, 2)
}

// A broken record behind the flush that burns the disk: no write is refused, as none is made.
func TestP502Burning(t *testing.T) {
	for _, c := range []struct {
		records [][]byte
		want    api.Errno
	}{
		{[][]byte{record(3), record(43)}, api.ErrCorrupt},
		{[][]byte{record(3)}, api.ErrDead},
		{nil, api.ErrDead},
	} {
		d := withRecords(t, small, c.records...)
		is(t, "Flush", d.Flush(), api.OK)
		d.Fuse(1)
		_, e := store.Open(d)
		is(t, "Open with one call", e, c.want)
	}
}

func TestP503Layout(t *testing.T) {
	for _, c := range []struct {
		s    api.Super
		want api.Layout
	}{
		{small, api.Layout{Log: 18, Home: 21, Blocks: 43, Nodes: 8, Data: 4}},
		{api.Super{Sectors: 25, Log: 18, Nodes: 4}, api.Layout{Log: 18, Home: 21, Blocks: 4, Nodes: 4, Data: 3}},
		{api.Super{Sectors: 2048, Log: 256, Nodes: 1024}, api.Layout{Log: 256, Home: 259, Blocks: 1789, Nodes: 1024, Data: 258}},
	} {
		d := formatted(t, c.s)
		s := opened(t, d)
		x := begun(t, s)
		ask := func(what string) {
			t.Helper()
			if was := d.Counts(); s.Layout() != c.want || x.Layout() != c.want || d.Counts() != was {
				t.Errorf("%s: Layout %+v, %+v, want %+v", what, s.Layout(), x.Layout(), c.want)
			}
		}
		ask("open")
		is(t, "Spoil", x.Spoil(api.ErrCorrupt), api.ErrCorrupt)
		ask("spoilt")
		is(t, "Abort", x.Abort(), api.OK)
		ask("ended")
		d.Fuse(0)
		ask("burnt")
		d.Crash(nil)
		ask("dead")
		is(t, "Format", store.Format(d, c.s), api.OK)
		ask("formatted anew")
	}
}

func TestP504Begin(t *testing.T) {
	d, s := laid(t)
	was := d.Counts()
	x := begun(t, s)
	busy := func(what string) {
		t.Helper()
		if y, e := s.Begin(); y != nil || e != api.ErrBusy {
			t.Fatalf("%s: Begin: %v, want busy", what, e)
		}
	}
	busy("open")
	is(t, "Put", x.Put(1, fill(1)), api.OK)
	busy("with a put")
	is(t, "Abort", x.Abort(), api.OK)
	y := begun(t, s)
	sees(t, y, 1, 0) // it has put nothing
	is(t, "Abort of an ended one", x.Abort(), api.ErrEnded)
	is(t, "Commit of an ended one", x.Commit(), api.ErrEnded)
	busy("an ended one was called")
	is(t, "Commit", y.Commit(), api.OK)
	z := begun(t, s)
	is(t, "Spoil", z.Spoil(api.ErrNoNodes), api.ErrNoNodes)
	busy("spoilt")
	is(t, "Commit of a spoilt one", z.Commit(), api.ErrNoNodes)
	busy("spoilt, and Commit refused")
	is(t, "Abort", z.Abort(), api.OK)
	is(t, "a new one is not spoilt", begun(t, s).State(), api.OK)
	did(t, "Begin", d, was, 0, 0)
	// of this store: another store's transaction is its own business
	other := formatted(t, small)
	begun(t, opened(t, other))
}

func TestP505Sync(t *testing.T) {
	d, s := laid(t)
	commit(t, s, 0, 'a', 1, 'b')
	x := begun(t, s)
	is(t, "Put", x.Put(2, fill('c')), api.OK)
	is(t, "Put", x.Put(0, fill('d')), api.OK)
	was := d.Counts()
	is(t, "Sync", s.Sync(), api.OK)
	did(t, "Sync", d, was, 0, 1)
	sees(t, x, 0, 'd')
	sees(t, x, 2, 'c')
	if d.Image()[home*512] != 0 {
		t.Error("Sync brings something home")
	}
	durable := loaded(t, d.Image())
	holds(t, opened(t, durable), 'a', 'b', 0) // of the open one nothing
	is(t, "Commit", x.Commit(), api.OK)
	durable = loaded(t, d.Image())
	holds(t, opened(t, durable), 'a', 'b', 0) // not synced
	is(t, "Sync", s.Sync(), api.OK)
	d.Crash(nil)
	holds(t, opened(t, d), 'd', 'b', 'c')
}

func TestP506Checkpoint(t *testing.T) {
	d, s := laid(t)
	commit(t, s, 9, 'a', 3, 'b')
	commit(t, s, 3, 'c', 30, 'd')
	x := begun(t, s)
	is(t, "Put", x.Put(3, fill('e')), api.OK)
	is(t, "Put", x.Put(5, fill('f')), api.OK)
	was := d.Counts()
	is(t, "Checkpoint", s.Checkpoint(), api.OK)
	did(t, "Checkpoint", d, was, 3+1, 1+2)
	if image := d.Image(); image[(home+3)*512] != 'c' || image[(home+9)*512] != 'a' || image[(home+30)*512] != 'd' || image[(home+5)*512] != 0 {
		t.Error("the homes are not as they should be")
	}
	if _, records, _ := wal.Open(loaded(t, d.Image()), 1, 18); len(records) != 0 {
		t.Errorf("%d records are left", len(records))
	}
	sees(t, x, 3, 'e')
	sees(t, x, 5, 'f')
	sees(t, x, 9, 'a')
	was = d.Counts()
	is(t, "Checkpoint", s.Checkpoint(), api.OK)
	did(t, "Checkpoint of nothing", d, was, 0, 2)
	is(t, "Commit", x.Commit(), api.OK)
	was = d.Counts()
	is(t, "Checkpoint", s.Checkpoint(), api.OK)
	did(t, "Checkpoint of what came since", d, was, 2+1, 3)
	d.Crash(nil)
	holds(t, opened(t, d), 0, 0, 0, 'e', 0, 'f', 0, 0, 0, 'a')
}

// A checkpoint is burnt behind each of its calls, and all that was pending kept.
func TestP506Order(t *testing.T) {
	for calls := range 1 + 3 + 3 + 1 { // the flush, the homes, the log's Trim
		d, s := laid(t)
		commit(t, s, 9, 'a', 3, 'b')
		commit(t, s, 3, 'c', 30, 'd')
		d.Fuse(calls)
		e := s.Checkpoint()
		if done := calls == 7; done != (e == api.OK) || e != api.OK && e != api.ErrDead {
			t.Fatalf("Checkpoint with %d calls: %v", calls, e)
		}
		durable := d.Image()
		d.Crash([]api.Pick{keep})
		image := d.Image()
		for i, h := range []struct {
			block int
			x     byte
		}{{3, 'c'}, {9, 'a'}, {30, 'd'}} {
			want := byte(0)
			if calls >= i+2 {
				want = h.x
			}
			if got := image[(home+h.block)*512]; got != want {
				t.Errorf("Checkpoint with %d calls: block %d is home: %q, want %q", calls, h.block, got, want)
			}
			if calls < 5 && durable[(home+h.block)*512] != 0 {
				t.Errorf("Checkpoint with %d calls: block %d is durable ahead of the flush", calls, h.block)
			}
		}
		if _, records, _ := wal.Open(loaded(t, durable), 1, 18); len(records) != []int{0, 2, 2, 2, 2, 2, 2, 0}[calls] {
			t.Errorf("Checkpoint with %d calls: %d records are durable", calls, len(records))
		}
	}
}

func TestP507Spoil(t *testing.T) {
	d, s := laid(t)
	spoils := map[api.Errno]int{api.ErrCorrupt: 1, api.ErrBudget: 1, api.ErrNoSpace: 1, api.ErrNoNodes: 1}
	was := d.Counts()
	for e := api.Errno(-3); e < 300; e++ {
		x := begun(t, s)
		is(t, "State", x.State(), api.OK)
		is(t, "Put", x.Put(4, fill('x')), api.OK)
		if spoils[e] == 0 {
			is(t, "Spoil", x.Spoil(e), api.ErrArg)
			is(t, "State", x.State(), api.OK)
			sees(t, x, 4, 'x')
			is(t, "Abort", x.Abort(), api.OK)
			continue
		}
		is(t, "Spoil", x.Spoil(e), e)
		is(t, "State", x.State(), e)
		for again := range spoils {
			is(t, "Spoil again", x.Spoil(again), e)
		}
		is(t, "Spoil again", x.Spoil(api.ErrName), e)
		spoiltBy(t, x, e)
		is(t, "Abort", x.Abort(), api.OK)
		is(t, "State", x.State(), api.ErrEnded)
		is(t, "Spoil", x.Spoil(e), api.ErrEnded)
		is(t, "Spoil", x.Spoil(api.ErrName), api.ErrEnded)
		holds(t, s, 0, 0, 0, 0, 0) // of no account
	}
	did(t, "State and Spoil", d, was, 0, 0)
	for _, e := range []api.Errno{math.MinInt, math.MaxInt} {
		is(t, "Spoil", begun(t, s).Spoil(e), api.ErrArg)
		is(t, "Format", store.Format(d, small), api.OK)
		s = opened(t, d)
	}
}

// spoiltBy asks that each call but Abort answers that error.
func spoiltBy(t *testing.T, x *store.Tx, e api.Errno) {
	t.Helper()
	for _, block := range []int{0, 4, 42, 43, -1} {
		if data, got := x.Get(block); len(data) > 0 || got != e {
			t.Fatalf("Get(%d): %d bytes, %v, want %v", block, len(data), got, e)
		}
		is(t, "Put", x.Put(block, fill(9)), e)
		is(t, "Put of nothing", x.Put(block, nil), e)
	}
	is(t, "Commit", x.Commit(), e)
	is(t, "State", x.State(), e)
}

func TestP508GetPut(t *testing.T) {
	d, s := laid(t)
	commit(t, s, 1, 'h')
	is(t, "Checkpoint", s.Checkpoint(), api.OK) // 1 is home
	commit(t, s, 2, 'o')                        // 2 is in the overlay
	commit(t, s, 1, 'p')                        // 1 is both
	x := begun(t, s)
	was := d.Counts()
	for b, c := range []byte{0, 'p', 'o', 0} {
		before := d.Counts().Reads
		sees(t, x, b, c)
		sees(t, x, b, c)
		if n := d.Counts().Reads - before; n > 2 {
			t.Errorf("two Gets of block %d read %d times", b, n)
		}
		before = d.Counts().Reads
		is(t, "Put", x.Put(b, fill('n')), api.OK)
		if n := d.Counts().Reads - before; n > 1 {
			t.Errorf("Put of block %d reads %d times", b, n)
		}
		sees(t, x, b, 'n')
		is(t, "Put again", x.Put(b, fill('m')), api.OK)
		sees(t, x, b, 'm')
		unlikeLast := append(fill('m')[:511], 'n')
		is(t, "Put of other bytes at the end", x.Put(b, unlikeLast), api.OK)
		if data, _ := x.Get(b); !bytes.Equal(data, unlikeLast) {
			t.Errorf("block %d ends with %v", b, data[510:])
		}
	}
	did(t, "Get and Put", d, was, 0, 0)
}

func TestP508Refused(t *testing.T) {
	d, s := laid(t)
	x := begun(t, s)
	is(t, "Put", x.Put(5, fill('x')), api.OK)
	was := d.Counts()
	for _, block := range []int{-1, 43, 44, 64, -43, 1 << 32, math.MinInt, math.MaxInt, math.MaxInt - 20} {
		for _, data := range [][]byte{fill(1), nil, {}, make([]byte, 511), make([]byte, 513)} {
			is(t, "Put out of range", x.Put(block, data), api.ErrRange)
		}
		if data, e := x.Get(block); len(data) > 0 || e != api.ErrRange {
			t.Fatalf("Get(%d): %d bytes, %v", block, len(data), e)
		}
	}
	for _, n := range []int{0, 1, 511, 513, 1024, 5000} {
		for _, block := range []int{0, 5, 42} {
			is(t, "Put of a wrong length", x.Put(block, make([]byte, n)), api.ErrLength)
		}
	}
	is(t, "Put of nil", x.Put(5, nil), api.ErrLength)
	did(t, "what is refused", d, was, 0, 0)
	is(t, "none of it spoils", x.State(), api.OK)
	sees(t, x, 5, 'x')
	is(t, "Put of the last block", x.Put(42, fill('z')), api.OK)
	is(t, "Commit", x.Commit(), api.OK)
	x = begun(t, s)
	sees(t, x, 42, 'z')
	sees(t, x, 5, 'x')
}

func TestP508Budget(t *testing.T) {
	_, s := laid(t)
	sixteen := func() *store.Tx {
		x := begun(t, s)
		for i := range 16 {
			is(t, "Put", x.Put(2*i, fill(byte(i+1))), api.OK)
		}
		return x
	}
	x := sixteen()
	is(t, "Put of a block that was put", x.Put(30, fill('y')), api.OK)
	is(t, "Put of what is there, as a seventeenth", x.Put(1, fill(0)), api.OK)
	is(t, "Put of a wrong length as a seventeenth", x.Put(1, nil), api.ErrLength)
	is(t, "Put out of range as a seventeenth", x.Put(43, fill(1)), api.ErrRange)
	is(t, "none of it spoils", x.State(), api.OK)
	is(t, "a seventeenth", x.Put(1, fill(1)), api.ErrBudget)
	spoiltBy(t, x, api.ErrBudget)
	is(t, "Abort", x.Abort(), api.OK)
	holds(t, s, 0, 0, 0)
	x = sixteen()
	is(t, "Put back", x.Put(0, fill(0)), api.OK)
	is(t, "a block that was put and put back was put", x.Put(1, fill(1)), api.ErrBudget)
	is(t, "Abort", x.Abort(), api.OK)
	x = begun(t, s)
	for b := range 43 {
		is(t, "Put of what is there", x.Put(b, fill(0)), api.OK)
	}
	for b := range 16 {
		is(t, "and then of sixteen others", x.Put(b, fill(7)), api.OK)
	}
	is(t, "Commit", x.Commit(), api.OK)
	holds(t, s, 7, 7, 7, 7, 7, 7, 7, 7, 7, 7, 7, 7, 7, 7, 7, 7, 0)
}

// recordsOf are those that the log holds now, on a copy of the disk.
func recordsOf(t *testing.T, d *disk.Disk, log int) [][]byte {
	t.Helper()
	var image []byte
	for at := range d.Sectors() {
		sector, e := d.Read(at)
		is(t, "Read", e, api.OK)
		image = append(image, sector...)
	}
	_, records, e := wal.Open(loaded(t, image), 1, log)
	is(t, "wal.Open", e, api.OK)
	return records
}

func TestP509Record(t *testing.T) {
	d, s := laid(t)
	commit(t, s, 8, 'h')
	is(t, "Checkpoint", s.Checkpoint(), api.OK)
	commit(t, s, 3, 'o')
	x := begun(t, s)
	for _, p := range []struct {
		block int
		x     byte
	}{{42, 'a'}, {0, 'b'}, {17, 'c'}, {8, 'd'}, {3, 'e'}, {20, 'f'}, {8, 'h'}, {3, 'o'}, {20, 0}, {17, 'g'}} {
		is(t, "Put", x.Put(p.block, fill(p.x)), api.OK)
	}
	was, image := d.Counts(), d.Image()
	is(t, "Commit", x.Commit(), api.OK)
	did(t, "Commit of three blocks", d, was, 4, 0)
	if !bytes.Equal(d.Image(), image) {
		t.Error("Commit makes something durable")
	}
	records := recordsOf(t, d, 18)
	want := recordOf(map[int][]byte{0: fill('b'), 17: fill('g'), 42: fill('a')})
	if len(records) != 2 || !bytes.Equal(records[1], want) || len(want) != 2+516*3 {
		t.Errorf("%d records, the last of %d bytes, want %d", len(records), len(records[len(records)-1]), len(want))
	}
	is(t, "State", x.State(), api.ErrEnded)
	is(t, "Commit again", x.Commit(), api.ErrEnded)
	is(t, "Abort", x.Abort(), api.ErrEnded)
	holds(t, s, 'b', 0, 0, 'o', 0, 0, 0, 0, 'h')
}

func TestP509Nothing(t *testing.T) {
	d, s := laid(t)
	commit(t, s, 5, 'x')
	for what, puts := range map[string][]int{
		"no put":                       {},
		"what is there":                {5, 'x', 6, 0},
		"put and put back":             {6, 'a', 6, 0},
		"put and put back, in overlay": {5, 'a', 6, 1, 5, 'x', 6, 2, 6, 0},
	} {
		was := d.Counts()
		commit(t, s, puts...)
		did(t, what, d, was, 0, 0)
	}
	if n := len(recordsOf(t, d, 18)); n != 1 {
		t.Errorf("%d records, want 1", n)
	}
	commit(t, s, 5, 0) // back to what is home: a change all the same
	if n := len(recordsOf(t, d, 18)); n != 2 {
		t.Errorf("%d records, want 2", n)
	}
	is(t, "Sync", s.Sync(), api.OK)
	d.Crash(nil)
	holds(t, opened(t, d), 0, 0, 0, 0, 0, 0)
}

// A transaction that leaves room for the next one to the last sector, and one that does not.
func TestP509Room(t *testing.T) {
	for _, c := range []struct {
		first, next int // blocks
		checkpoint  bool
	}{
		{1, 15, false}, // 2 and 16 sectors
		{1, 16, true},  // 2 and 17
		{15, 1, false},
		{16, 1, true},
		{8, 8, false}, // 9 and 9
		{8, 9, true},  // 9 and 10
		{16, 16, true},
	} {
		d, s := laid(t)
		change := func(blocks int, x byte) {
			t.Helper()
			tx := begun(t, s)
			for b := range blocks {
				is(t, "Put", tx.Put(b, fill(x)), api.OK)
			}
			is(t, "Commit", tx.Commit(), api.OK)
		}
		change(c.first, 1)
		was := d.Counts()
		change(c.next, 2)
		sectors := (2+516*c.next-1)/492 + 1
		if c.checkpoint {
			did(t, "Commit with a checkpoint", d, was, c.first+1+sectors, 3)
			if n := len(recordsOf(t, d, 18)); n != 1 {
				t.Errorf("%+v: %d records", c, n)
			}
		} else {
			did(t, "Commit", d, was, sectors, 0)
		}
		holds(t, s, 2)
		d.Crash(nil)
		want := byte(0)
		if c.checkpoint {
			want = 1
		}
		holds(t, opened(t, d), want)
	}
}

func TestP509Abort(t *testing.T) {
	d, s := laid(t)
	commit(t, s, 0, 'a')
	was := d.Counts()
	x := begun(t, s)
	is(t, "Put", x.Put(0, fill('b')), api.OK)
	is(t, "Put", x.Put(1, fill('c')), api.OK)
	is(t, "Abort", x.Abort(), api.OK)
	is(t, "Abort again", x.Abort(), api.ErrEnded)
	is(t, "Commit", x.Commit(), api.ErrEnded)
	is(t, "State", x.State(), api.ErrEnded)
	for _, block := range []int{0, -1, 43} {
		if data, e := x.Get(block); len(data) > 0 || e != api.ErrEnded {
			t.Errorf("Get(%d): %d bytes, %v", block, len(data), e)
		}
		is(t, "Put", x.Put(block, nil), api.ErrEnded)
	}
	did(t, "Abort", d, was, 0, 0)
	holds(t, s, 'a', 0)
}

// A commit that is burnt within it: nobody sees it but a later Open, whole or not at all.
func TestP509Burnt(t *testing.T) {
	for calls := range 5 {
		for _, pick := range []api.Pick{lose, keep} {
			d, s := laid(t)
			x := begun(t, s)
			for b := range 3 {
				is(t, "Put", x.Put(b, fill('x')), api.OK)
			}
			d.Fuse(calls)
			e := x.Commit()
			if done := calls == 4; done != (e == api.OK) || e != api.OK && e != api.ErrDead {
				t.Fatalf("Commit with %d calls: %v", calls, e)
			}
			if calls < 5 {
				wantDead(t, "a commit", d, s, x)
			}
			d.Crash([]api.Pick{pick})
			want := byte(0)
			if calls == 4 && pick == keep {
				want = 'x'
			}
			holds(t, opened(t, d), want, want, want, 0)
		}
	}
}

func TestExamples(t *testing.T) {
	five := func(t *testing.T) *disk.Disk {
		d, s := laid(t)
		for i := range 5 {
			if i == 3 {
				is(t, "Sync", s.Sync(), api.OK)
			}
			commit(t, s, i, i+1)
		}
		return d
	}
	t.Run("1", func(t *testing.T) {
		d, s := laid(t)
		l, _, _ := wal.Open(loaded(t, d.Image()), 1, 18)
		if epoch, _, _, e := l.Marks(); epoch != 2 || e != api.OK {
			t.Errorf("epoch %d, %v", epoch, e)
		}
		was := d.Counts()
		commit(t, s, 5, 'x')
		did(t, "Commit", d, was, 2, 0)
		holds(t, s, 0, 0, 0, 0, 0, 'x')
		if data, _ := d.Read(26); !bytes.Equal(data, fill(0)) {
			t.Error("it is home already")
		}
		is(t, "Checkpoint", s.Checkpoint(), api.OK)
		if data, _ := d.Read(26); !bytes.Equal(data, fill('x')) {
			t.Error("it is not home")
		}
	})
	t.Run("6 and 7", func(t *testing.T) {
		for _, c := range []struct {
			picks []api.Pick
			want  []byte
		}{
			{nil, []byte{1, 2, 3, 0, 0, 0}},
			{[]api.Pick{keep}, []byte{1, 2, 3, 4, 5, 0}},
			{[]api.Pick{lose, lose, keep, keep}, []byte{1, 2, 3, 0, 0, 0}},
		} {
			d := five(t)
			d.Crash(c.picks)
			s := opened(t, d)
			holds(t, s, c.want...)
			commit(t, s, 5, 9)
			is(t, "Sync", s.Sync(), api.OK)
			d.Crash(nil)
			c.want[5] = 9
			holds(t, opened(t, d), c.want...)
		}
	})
}

// wantDead asks that every call answers ErrDead, ahead of all else, and asks the disk for nothing.
func wantDead(t *testing.T, what string, d *disk.Disk, s *store.Store, x *store.Tx) {
	t.Helper()
	was, image := d.Counts(), d.Image()
	if y, e := s.Begin(); y != nil || e != api.ErrDead {
		t.Fatalf("%s: Begin: %v", what, e)
	}
	is(t, what+": Sync", s.Sync(), api.ErrDead)
	is(t, what+": Checkpoint", s.Checkpoint(), api.ErrDead)
	is(t, what+": State", x.State(), api.ErrDead)
	for _, e := range []api.Errno{api.ErrCorrupt, api.ErrName, api.OK} {
		is(t, what+": Spoil", x.Spoil(e), api.ErrDead)
	}
	for _, block := range []int{0, 5, 43, -1} {
		if data, e := x.Get(block); len(data) > 0 || e != api.ErrDead {
			t.Fatalf("%s: Get(%d): %d bytes, %v", what, block, len(data), e)
		}
		is(t, what+": Put", x.Put(block, fill('d')), api.ErrDead)
		is(t, what+": Put of nothing", x.Put(block, nil), api.ErrDead)
	}
	is(t, what+": Commit", x.Commit(), api.ErrDead)
	is(t, what+": Abort", x.Abort(), api.ErrDead)
	if d.Counts() != was || !bytes.Equal(d.Image(), image) {
		t.Fatalf("%s: a dead store asks the disk: %+v, was %+v", what, d.Counts(), was)
	}
}

func TestP5Dead(t *testing.T) {
	for what, end := range map[string]func(d *disk.Disk){
		"a cut":                   func(d *disk.Disk) { d.Crash(nil) },
		"a new life":              func(d *disk.Disk) { d.Take() },
		"another Open":            func(d *disk.Disk) { store.Open(d) },
		"a log's Open":            func(d *disk.Disk) { wal.Open(d, 1, 18) },
		"another Format":          func(d *disk.Disk) { store.Format(d, small) },
		"an Open that is refused": func(d *disk.Disk) { d.Write(1, fill(7)); d.Write(2, fill(7)); store.Open(d) },
		"a burnt disk":            func(d *disk.Disk) { d.Fuse(0) },
		"a fuse":                  func(d *disk.Disk) { d.Fuse(1); d.Flush() },
		"a Format that is cut":    func(d *disk.Disk) { d.Fuse(1); store.Format(d, small) },
	} {
		for state, bring := range map[string]func(x *store.Tx){
			"open":      func(*store.Tx) {},
			"put":       func(x *store.Tx) { x.Put(5, fill('q')) },
			"committed": func(x *store.Tx) { x.Put(5, fill('q')); x.Commit() },
			"aborted":   func(x *store.Tx) { x.Abort() },
			"spoilt":    func(x *store.Tx) { x.Spoil(api.ErrNoSpace) },
		} {
			d, s := laid(t)
			commit(t, s, 0, 'a')
			x := begun(t, s)
			bring(x)
			end(d)
			wantDead(t, what+", "+state, d, s, x)
			d.Crash(nil) // the power comes again, and the store stays dead
			wantDead(t, what+" and a cut, "+state, d, s, x)
			store.Open(d)
			wantDead(t, what+", a cut and another Open, "+state, d, s, x)
		}
	}
}

// Just if a write or a flush is refused: a call that the fuse lets through to its end answers OK, and is the last one.
func TestP5LastCall(t *testing.T) {
	for _, c := range []struct {
		what  string
		calls int
		do    func(d *disk.Disk, s *store.Store, x *store.Tx) api.Errno
	}{
		{"Sync", 1, func(_ *disk.Disk, s *store.Store, _ *store.Tx) api.Errno { return s.Sync() }},
		{"Checkpoint", 1 + 2 + 3, func(_ *disk.Disk, s *store.Store, _ *store.Tx) api.Errno { return s.Checkpoint() }},
		{"Commit", 3, func(_ *disk.Disk, _ *store.Store, x *store.Tx) api.Errno { return x.Commit() }},
		{"Open", 1 + 2 + 1 + 2, func(d *disk.Disk, _ *store.Store, _ *store.Tx) api.Errno { _, e := store.Open(d); return e }},
		{"Format", 2 + 64 + 20 + 3 + 2, func(d *disk.Disk, _ *store.Store, _ *store.Tx) api.Errno { return store.Format(d, small) }},
	} {
		for _, short := range []int{1, 0} {
			d, s := laid(t)
			commit(t, s, 0, 'a', 1, 'b')
			x := begun(t, s)
			is(t, "Put", x.Put(2, fill('c')), api.OK)
			is(t, "Put", x.Put(3, fill('c')), api.OK)
			d.Fuse(c.calls - short)
			want := api.OK
			if short > 0 {
				want = api.ErrDead
			}
			is(t, c.what, c.do(d, s, x), want)
			if !d.Burnt() {
				t.Errorf("%s makes fewer calls than %d", c.what, c.calls)
			}
			wantDead(t, c.what, d, s, x)
		}
	}
}

// Calls that neither write nor flush take nothing from the fuse.
func TestP5NoCall(t *testing.T) {
	d, s := laid(t)
	d.Fuse(1)
	for range 3 {
		x := begun(t, s)
		is(t, "Put", x.Put(1, fill(1)), api.OK)
		sees(t, x, 1, 1)
		is(t, "Put", x.Put(1, fill(0)), api.OK)
		is(t, "Commit", x.Commit(), api.OK)
		x = begun(t, s)
		is(t, "Put", x.Put(1, fill(1)), api.OK)
		is(t, "Spoil", x.Spoil(api.ErrCorrupt), api.ErrCorrupt)
		is(t, "Abort", x.Abort(), api.OK)
	}
	is(t, "Sync", s.Sync(), api.OK)
	is(t, "Sync", s.Sync(), api.ErrDead)
}

// drawnImage is that of a disk with a superblock and a log of records that are right, nearly right, or junk.
func drawnImage(t *testing.T, d *dice) []byte {
	t.Helper()
	super := one(d, small, api.Super{Sectors: 25, Log: 18, Nodes: 4}, api.Super{Sectors: 70, Log: 40, Nodes: 12})
	layout, _ := codec.Plan(super)
	x := formatted(t, super)
	l, _, e := wal.Open(x, 1, super.Log)
	is(t, "wal.Open", e, api.OK)
	is(t, "wal.Start", l.Start(), api.OK)
	for range d.below(7) {
		puts := map[int][]byte{}
		for range 1 + d.below(one(d, 1, 3, 8)) {
			puts[d.below(layout.Blocks)] = d.bytes(512)
		}
		r := recordOf(puts)
		switch d.below(40) {
		case 0:
			r[0] += byte(1 + d.below(255))
		case 1:
			r[2+d.below(4)] += byte(1 + d.below(255))
		case 2:
			r = r[:len(r)-1]
		case 3:
			r = d.bytes(1 + d.below(600))
		}
		l.Append(r)
	}
	is(t, "Flush", x.Flush(), api.OK)
	image := x.Image()
	for at := range layout.Blocks {
		copy(sectorAt(image, layout.Home+at), d.bytes(512))
	}
	for range one(d, 0, 0, 0, 1, 2) {
		image[one(d, d.below(512), 512+d.below(1024), 512+d.below(512*20))] ^= byte(1 + d.below(255))
	}
	return image
}

func TestP502Drawn(t *testing.T) {
	d := newDice(502)
	answers := map[api.Errno]int{}
	for range 600 {
		g := newGame(t, drawnImage(t, d))
		if d.below(3) == 0 {
			g.fuse(d.below(15))
		}
		e := g.open()
		answers[e]++
		if e == api.OK {
			g.all(g.stores[0])
		}
	}
	if answers[api.OK] < 100 || answers[api.ErrCorrupt] < 100 || answers[api.ErrDead] < 50 {
		t.Errorf("the draw is thin: %v", answers)
	}
}

func TestP511AnyDisk(t *testing.T) {
	d := newDice(511)
	found := 0
	for _, sectors := range []int{1, 2, 3, 20, 24, 25, 26, 64, 300, 2048} {
		for range 12 {
			image := make([]byte, sectors*512)
			for at := range sectors {
				switch d.below(4) {
				case 0:
					copy(sectorAt(image, at), d.bytes(512))
				case 1:
					seals(t, image, at, d.bytes(d.below(505)))
				case 2: // a record of one sector, or a piece of one
					body := append(number32(1+d.below(2)), number32(d.below(20))...)
					body = append(body, byte(d.below(2)), 0, byte(1+d.below(2)), 0)
					seals(t, image, at, append(body, d.bytes(d.below(493))...))
				}
			}
			super := api.Super{Sectors: sectors, Log: min(256, max(18, sectors/2)), Nodes: 4 * (1 + d.below(9))}
			if sector, e := codec.EncodeSuper(super); e == api.OK {
				copy(image, sector)
				seals(t, image, 1+d.below(2), append(number32(d.below(20)), number32(1+d.below(2))...))
				found++
			}
			g := newGame(t, image)
			switch e := g.open(); e {
			case api.OK, api.ErrCorrupt, api.ErrWorn:
			default:
				t.Fatalf("Open over %d sectors: %v", sectors, e)
			}
		}
	}
	if found < 40 {
		t.Errorf("%d superblocks are few", found)
	}
}

// A log that is as full as can be is read within the bound.
func TestP511Reads(t *testing.T) {
	for _, super := range []api.Super{{Sectors: 25, Log: 18, Nodes: 4}, {Sectors: 264, Log: 256, Nodes: 4}, {Sectors: 2048, Log: 256, Nodes: 1024}} {
		d := formatted(t, super)
		s := opened(t, d)
		for i := range 300 {
			commit(t, s, i%4, i+1)
		}
		was := d.Counts()
		opened(t, d)
		if c := d.Counts(); c.Reads-was.Reads > 2*super.Sectors+16 || c.Refused != was.Refused {
			t.Errorf("%+v: Open reads %d times", super, c.Reads-was.Reads)
		}
	}
}

func scribble(list []byte) {
	whole := list[:cap(list)]
	for i := range whole {
		whole[i] ^= 0xA5
	}
}

func TestP2Memory(t *testing.T) {
	d, s := laid(t)
	commit(t, s, 0, 'h', 1, 'o')
	is(t, "Checkpoint", s.Checkpoint(), api.OK)
	commit(t, s, 1, 'p')
	x := begun(t, s)
	roomy := append(fill('q'), fill(0xEE)...)
	is(t, "Put", x.Put(2, roomy[:512]), api.OK)
	if !bytes.Equal(roomy, append(fill('q'), fill(0xEE)...)) {
		t.Fatal("Put changes what it is handed")
	}
	scribble(roomy)
	for range 3 {
		for b, c := range []byte{'h', 'p', 'q', 0} { // from home, from the overlay, from its own puts, zeros
			data, e := x.Get(b)
			if e != api.OK || !bytes.Equal(data, fill(c)) {
				t.Fatalf("Get(%d): %v .., %v", b, data[:min(len(data), 4)], e)
			}
			scribble(data)
		}
	}
	is(t, "Commit", x.Commit(), api.OK)
	scribble(roomy)
	holds(t, s, 'h', 'p', 'q', 0)
	is(t, "Sync", s.Sync(), api.OK)
	d.Crash(nil)
	holds(t, opened(t, d), 'h', 'p', 'q', 0)
}

// Two stores on two disks have nothing of one another.
func TestP3Apart(t *testing.T) {
	d, a := laid(t)
	_, b := laid(t)
	x := begun(t, a)
	y := begun(t, b)
	is(t, "Put", x.Put(0, fill('x')), api.OK)
	is(t, "Put", y.Put(0, fill('y')), api.OK)
	is(t, "Commit", x.Commit(), api.OK)
	sees(t, y, 0, 'y')
	is(t, "Commit", y.Commit(), api.OK)
	d.Crash(nil)
	holds(t, b, 'y')
	holds(t, opened(t, d), 0)
}

// Where a disk is written beside an open store nothing is promised but that every call ends, and asks for no sector that the disk has not.
func TestP9WrittenBeside(t *testing.T) {
	dice := newDice(9)
	for range 200 {
		d, s := laid(t)
		for range 8 {
			at := dice.below(64)
			old, _ := d.Read(at)
			anchor := append(number32(dice.below(1<<30)), number32(dice.below(1<<31))...)
			sealed, _ := seal.Seal(old, one(dice, anchor, dice.bytes(30)))
			d.Write(at, one(dice, sealed, dice.bytes(512), fill(0)))
			x, e := s.Begin()
			if e != api.OK {
				continue
			}
			for range dice.below(18) {
				x.Put(dice.below(43), dice.bytes(512))
				x.Get(dice.below(43))
			}
			x.Commit()
			x.Abort()
			s.Sync()
			s.Checkpoint()
		}
		if c := d.Counts(); c.Refused != 0 {
			t.Fatalf("%+v", c)
		}
		store.Open(d)
	}
}
