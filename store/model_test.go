package store_test

import (
	"bytes"
	"encoding/binary"
	"slices"
	"testing"

	"vellum/api"
	"vellum/codec"
	"vellum/disk"
	"vellum/store"
	"vellum/wal"
)

// A plain model of the chapter's words, played on a disk of its own beside the store's: it holds the whole array in memory, and makes the writes and flushes that the promises name, one by one.

// dice draws numbers, the same ones in every run.
type dice uint64

func newDice(seed int) *dice {
	d := dice(seed)
	return &d
}

func (d *dice) below(n int) int {
	*d = *d*6364136223846793005 + 1442695040888963407
	return int(uint64(*d)>>33) % n
}

func (d *dice) bytes(n int) []byte {
	list := make([]byte, n)
	for i := range list {
		list[i] = byte(d.below(256))
	}
	return list
}

func one[T any](d *dice, list ...T) T { return list[d.below(len(list))] }

// world is a disk and the number of its life, as the chapters count it.
type world struct {
	d    *disk.Disk
	life int
}

// model is a store; its transactions are all kept, as ended ones are asked too.
type model struct {
	w      *world
	life   int
	l      *wal.Log
	layout api.Layout
	array  [][]byte
	away   map[int]bool // committed and not home
	open   *modelTx
}

type modelTx struct {
	m      *model
	puts   map[int][]byte
	spoilt api.Errno
	ended  bool
}

// first answers the first error.
func first(steps ...func() api.Errno) api.Errno {
	for _, step := range steps {
		if e := step(); e != api.OK {
			return e
		}
	}
	return api.OK
}

func (w *world) write(at int, data []byte) func() api.Errno {
	return func() api.Errno { return w.d.Write(at, data) }
}

func (w *world) format(s api.Super) api.Errno {
	if w.d.Burnt() {
		return api.ErrDead
	}
	if _, e := codec.Plan(s); e != api.OK || s.Sectors != w.d.Sectors() {
		return api.ErrGeometry
	}
	w.life++
	zeros := make([]byte, 512)
	super, _ := codec.EncodeSuper(s)
	steps := []func() api.Errno{w.write(0, zeros), w.d.Flush}
	for at := 1; at < s.Sectors; at++ {
		steps = append(steps, w.write(at, zeros))
	}
	steps = append(steps, w.d.Flush, func() api.Errno { return wal.Format(w.d, 1, s.Log) }, w.write(0, super), w.d.Flush)
	return first(steps...)
}

// blocksOf are the blocks of a transaction's record and their contents; none, if it is no such record.
func blocksOf(record []byte, blocks int) ([]int, [][]byte) {
	if len(record) < 2 {
		return nil, nil
	}
	c := int(binary.LittleEndian.Uint16(record))
	if c == 0 || c > 16 || len(record) != 2+516*c {
		return nil, nil
	}
	var numbers []int
	var contents [][]byte
	for i := range c {
		b := int(binary.LittleEndian.Uint32(record[2+4*i:]))
		if b >= blocks || i > 0 && b <= numbers[i-1] {
			return nil, nil
		}
		numbers = append(numbers, b)
		contents = append(contents, record[2+4*c+512*i:2+4*c+512*i+512])
	}
	return numbers, contents
}

// recordOf is a transaction's record.
func recordOf(puts map[int][]byte) []byte {
	record := binary.LittleEndian.AppendUint16(nil, uint16(len(puts)))
	for _, b := range rising(puts) {
		record = binary.LittleEndian.AppendUint32(record, uint32(b))
	}
	for _, b := range rising(puts) {
		record = append(record, puts[b]...)
	}
	return record
}

func rising[V any](m map[int]V) []int {
	var list []int
	for b := range m {
		list = append(list, b)
	}
	slices.Sort(list)
	return list
}

func (w *world) open() (*model, api.Errno) {
	if w.d.Burnt() {
		return nil, api.ErrDead
	}
	sector, _ := w.d.Read(0)
	super, e := codec.DecodeSuper(sector)
	if e != api.OK || super.Sectors != w.d.Sectors() {
		return nil, api.ErrCorrupt
	}
	w.life++
	layout, _ := codec.Plan(super)
	l, records, e := wal.Open(w.d, 1, layout.Log)
	if e != api.OK {
		return nil, e
	}
	last := map[int][]byte{}
	for _, r := range records {
		numbers, contents := blocksOf(r, layout.Blocks)
		if numbers == nil {
			return nil, api.ErrCorrupt
		}
		for i, b := range numbers {
			last[b] = contents[i]
		}
	}
	m := &model{w: w, life: w.life, l: l, layout: layout, away: map[int]bool{}}
	var steps []func() api.Errno
	for _, b := range rising(last) {
		steps = append(steps, w.write(layout.Home+b, last[b]))
	}
	if len(records) > 0 {
		steps = append(steps, w.d.Flush)
	}
	if e := first(append(steps, l.Start)...); e != api.OK {
		return nil, e
	}
	image := w.d.Image() // all of it is durable behind Start
	for b := range layout.Blocks {
		m.array = append(m.array, sectorAt(image, layout.Home+b))
	}
	return m, api.OK
}

func sectorAt(image []byte, at int) []byte { return image[at*512 : at*512+512] }

func (m *model) dead() bool { return m.w.d.Burnt() || m.w.life != m.life }

func (m *model) begin() (*modelTx, api.Errno) {
	if m.dead() {
		return nil, api.ErrDead
	}
	if m.open != nil {
		return nil, api.ErrBusy
	}
	m.open = &modelTx{m: m, puts: map[int][]byte{}}
	return m.open, api.OK
}

func (m *model) sync() api.Errno {
	if m.dead() {
		return api.ErrDead
	}
	return m.l.Sync()
}

func (m *model) checkpoint() api.Errno {
	if m.dead() {
		return api.ErrDead
	}
	steps := []func() api.Errno{m.l.Sync}
	for _, b := range rising(m.away) {
		steps = append(steps, m.w.write(m.layout.Home+b, m.array[b]))
	}
	e := first(append(steps, m.l.Trim)...)
	if e == api.OK {
		m.away = map[int]bool{}
	}
	return e
}

func (t *modelTx) state() api.Errno {
	switch {
	case t.m.dead():
		return api.ErrDead
	case t.ended:
		return api.ErrEnded
	}
	return t.spoilt
}

func (t *modelTx) spoil(e api.Errno) api.Errno {
	if s := t.state(); s != api.OK {
		return s
	}
	if e != 6 && e != 50 && e != 60 && e != 61 {
		return api.ErrArg
	}
	t.spoilt = e
	return e
}

func (t *modelTx) get(b int) ([]byte, api.Errno) {
	if e := t.state(); e != api.OK {
		return nil, e
	}
	if b < 0 || b > t.m.layout.Blocks-1 {
		return nil, api.ErrRange
	}
	if put := t.puts[b]; put != nil {
		return put, api.OK
	}
	return t.m.array[b], api.OK
}

func (t *modelTx) put(b int, data []byte) api.Errno {
	is, e := t.get(b)
	switch {
	case e != api.OK:
		return e
	case len(data) != 512:
		return api.ErrLength
	case bytes.Equal(is, data):
		return api.OK
	case t.puts[b] == nil && len(t.puts) == 16:
		t.spoilt = api.ErrBudget
		return api.ErrBudget
	}
	t.puts[b] = bytes.Clone(data)
	return api.OK
}

func (t *modelTx) commit() api.Errno {
	if e := t.state(); e != api.OK {
		return e
	}
	unlike := map[int][]byte{}
	for b, data := range t.puts {
		if !bytes.Equal(data, t.m.array[b]) {
			unlike[b] = data
		}
	}
	if len(unlike) > 0 {
		record := recordOf(unlike)
		if room, _ := t.m.l.Room(); room < (len(record)+491)/492 {
			if e := t.m.checkpoint(); e != api.OK {
				return e
			}
		}
		if e := t.m.l.Append(record); e != api.OK {
			return e
		}
		for b, data := range unlike {
			t.m.array[b] = data
			t.m.away[b] = true
		}
	}
	t.ended, t.m.open = true, nil
	return api.OK
}

func (t *modelTx) abort() api.Errno {
	if t.m.dead() {
		return api.ErrDead
	}
	if t.ended {
		return api.ErrEnded
	}
	t.ended, t.m.open = true, nil
	return api.OK
}

// game plays each call at the program and at the model, and holds what they answer, and their disks, against each other.
type game struct {
	t      *testing.T
	d      *disk.Disk
	w      *world
	stores []twoStores
	txs    []twoTxs
}

type twoStores struct {
	s *store.Store
	m *model
}

type twoTxs struct {
	x *store.Tx
	m *modelTx
}

func newGame(t *testing.T, image []byte) *game {
	t.Helper()
	d, e := disk.Load(image)
	is(t, "Load", e, api.OK)
	twin, e := disk.Load(image)
	is(t, "Load", e, api.OK)
	return &game{t: t, d: d, w: &world{d: twin}}
}

// same asks that both disks were asked the same, and hold the same.
func (g *game) same(what string, got, want api.Errno) {
	g.t.Helper()
	if got != want {
		g.t.Fatalf("%s: %v, want %v", what, got, want)
	}
	a, b := g.d.Counts(), g.w.d.Counts()
	a.Reads, b.Reads = 0, 0
	if a != b || g.d.Burnt() != g.w.d.Burnt() {
		g.t.Fatalf("%s: the disk was asked %+v, want %+v", what, a, b)
	}
	if at := unlike(g.d.Image(), g.w.d.Image()); at >= 0 {
		g.t.Fatalf("%s: P512: the images are unlike in sector %d", what, at)
	}
}

// unlike is the first sector in which two images are unlike; below 0 if there is none.
func unlike(a, b []byte) int {
	for at := range len(a) / 512 {
		if !bytes.Equal(sectorAt(a, at), sectorAt(b, at)) {
			return at
		}
	}
	return -1
}

func (g *game) fuse(calls int) {
	g.d.Fuse(calls)
	g.w.d.Fuse(calls)
}

func (g *game) crash(picks []api.Pick) {
	g.t.Helper()
	g.d.Crash(picks)
	g.w.d.Crash(picks)
	g.w.life++
	g.same("Crash", api.OK, api.OK)
}

func (g *game) format(s api.Super) api.Errno {
	g.t.Helper()
	e := store.Format(g.d, s)
	g.same("Format", e, g.w.format(s))
	return e
}

func (g *game) open() api.Errno {
	g.t.Helper()
	reads, life, lives := g.d.Counts().Reads, g.d.Life(), g.w.life
	s, e := store.Open(g.d)
	m, want := g.w.open()
	g.same("Open", e, want)
	if (s != nil) != (e == api.OK) {
		g.t.Fatalf("Open answers a store: %v, and %v", s != nil, e)
	}
	if n := g.d.Counts().Reads - reads; n > 2*g.d.Sectors()+16 {
		g.t.Fatalf("P511: Open reads %d times of %d sectors", n, g.d.Sectors())
	}
	if (g.d.Life() != life) != (g.w.life != lives) {
		g.t.Fatalf("P502: Open: %v; a new life: %v", e, g.d.Life() != life)
	}
	if e == api.OK {
		g.stores = append(g.stores, twoStores{s, m})
		if s.Layout() != m.layout {
			g.t.Fatalf("P503: Layout %+v, want %+v", s.Layout(), m.layout)
		}
	}
	return e
}

func (g *game) begin(on twoStores) {
	g.t.Helper()
	x, e := on.s.Begin()
	m, want := on.m.begin()
	g.same("Begin", e, want)
	if (x != nil) != (e == api.OK) {
		g.t.Fatalf("Begin answers a transaction: %v, and %v", x != nil, e)
	}
	if e == api.OK {
		g.txs = append(g.txs, twoTxs{x, m})
	}
}

func (g *game) sync(on twoStores) {
	g.t.Helper()
	e := on.s.Sync()
	g.same("Sync", e, on.m.sync())
}

func (g *game) checkpoint(on twoStores) {
	g.t.Helper()
	e := on.s.Checkpoint()
	g.same("Checkpoint", e, on.m.checkpoint())
}

func (g *game) get(on twoTxs, b int) {
	g.t.Helper()
	reads := g.d.Counts().Reads
	data, e := on.x.Get(b)
	want, wantE := on.m.get(b)
	g.same("Get", e, wantE)
	if !bytes.Equal(data, want) {
		g.t.Fatalf("P508: Get(%d) answers % x .., want % x ..", b, data[:min(len(data), 4)], want[:min(len(want), 4)])
	}
	if n := g.d.Counts().Reads - reads; n > 1 {
		g.t.Fatalf("P508: Get reads %d sectors", n)
	}
}

func (g *game) put(on twoTxs, b int, data []byte) {
	g.t.Helper()
	reads := g.d.Counts().Reads
	e := on.x.Put(b, data)
	g.same("Put", e, on.m.put(b, data))
	if n := g.d.Counts().Reads - reads; n > 1 {
		g.t.Fatalf("P508: Put reads %d sectors", n)
	}
}

func (g *game) state(on twoTxs) {
	g.t.Helper()
	e := on.x.State()
	g.same("State", e, on.m.state())
}

func (g *game) spoil(on twoTxs, by api.Errno) {
	g.t.Helper()
	e := on.x.Spoil(by)
	g.same("Spoil", e, on.m.spoil(by))
}

func (g *game) commit(on twoTxs) api.Errno {
	g.t.Helper()
	e := on.x.Commit()
	g.same("Commit", e, on.m.commit())
	return e
}

func (g *game) abort(on twoTxs) {
	g.t.Helper()
	e := on.x.Abort()
	g.same("Abort", e, on.m.abort())
}

// all asks for every block of a store, and looks at both disks through their caches.
func (g *game) all(on twoStores) {
	g.t.Helper()
	g.begin(on)
	if on.m.dead() || len(g.txs) == 0 {
		return
	}
	x := g.txs[len(g.txs)-1]
	for b := range on.m.layout.Blocks {
		g.get(x, b)
	}
	for at := range g.d.Sectors() {
		now, _ := g.d.Read(at)
		want, _ := g.w.d.Read(at)
		if !bytes.Equal(now, want) {
			g.t.Fatalf("P512: sector %d holds other bytes now", at)
		}
	}
}

// late draws one of the newest of a list, mostly the last.
func late[T any](d *dice, list []T) T {
	return list[max(0, len(list)-1-max(0, d.below(8)-5))]
}

func (d *dice) picks() []api.Pick {
	var list []api.Pick
	for range d.below(6) {
		list = append(list, one(d, lose, keep, keep, tear(d.below(513)), tear2(d.below(513)), api.Pick{A: d.below(9) - 4, B: d.below(9) - 4, Cut: d.below(2000) - 500}))
	}
	return list
}

// some draws a content, of few, so that the same ones come again; seldom one of a wrong length.
func (d *dice) some() []byte {
	return fill(byte(d.below(4)))[:one(d, 512, 512, 512, 512, 512, 512, 512, 512, 512, 511)]
}

// step plays one drawn call.
func (g *game) step(d *dice) {
	g.t.Helper()
	s := late(d, g.stores)
	if len(g.txs) == 0 {
		g.begin(s)
		return
	}
	x := late(d, g.txs)
	blocks := s.m.layout.Blocks
	switch d.below(20) {
	case 0, 1:
		g.begin(s)
	case 2:
		g.sync(s)
	case 3:
		g.checkpoint(s)
	case 4:
		g.get(x, one(d, -1, blocks, d.below(blocks)))
	case 5:
		g.state(x)
	case 6:
		g.spoil(x, one(d, api.OK, api.ErrName, api.ErrArg, api.ErrCorrupt, api.ErrBudget, api.ErrNoSpace, api.ErrNoNodes, -1))
		g.state(x)
	case 7, 8, 9:
		g.commit(x)
	case 10:
		g.abort(x)
	case 11:
		for range 20 {
			g.put(x, d.below(blocks), fill(byte(d.below(9))))
		}
	case 12:
		if x := g.txs[len(g.txs)-1]; x.m.state() != api.OK { // so that the game goes on
			g.abort(x)
			g.begin(g.stores[len(g.stores)-1])
		}
	default:
		g.put(x, one(d, -1, blocks, d.below(blocks), d.below(blocks), d.below(blocks), d.below(blocks)), d.some())
	}
}

func TestP512Drawn(t *testing.T) {
	t.Parallel()
	d := newDice(512)
	commits, cuts, refused := 0, 0, 0
	for range 60 {
		s := one(d, api.Super{Sectors: 25, Log: 18, Nodes: 4}, api.Super{Sectors: 44, Log: 18, Nodes: 8}, api.Super{Sectors: 44, Log: 19, Nodes: 4}, api.Super{Sectors: 100, Log: 60, Nodes: 16})
		g := newGame(t, d.bytes(s.Sectors*512))
		g.format(s)
		g.open()
		for range 600 {
			if d.below(30) == 0 {
				g.fuse(d.below(40))
			}
			was := g.d.Counts().Writes
			g.step(d)
			if g.d.Counts().Writes > was {
				commits++
			}
			if !g.d.Burnt() && d.below(60) != 0 {
				continue
			}
			if d.below(4) != 0 || g.d.Burnt() {
				g.crash(d.picks())
				cuts++
			}
			if d.below(10) == 0 {
				g.fuse(d.below(120))
				g.format(s)
				g.crash(d.picks())
			}
			for d.below(3) == 0 {
				g.fuse(d.below(12))
				if g.open() != api.OK {
					refused++
				}
				g.crash(d.picks())
			}
			if g.open() != api.OK { // a Format was cut
				g.format(s)
				g.open()
			}
			g.all(g.stores[len(g.stores)-1])
		}
	}
	if commits < 1000 || cuts < 400 || refused < 50 {
		t.Errorf("the draw is thin: %d calls that write, %d cuts, %d Opens refused", commits, cuts, refused)
	}
}
