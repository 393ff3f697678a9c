package node_test

import (
	"bytes"
	"slices"
	"testing"

	"vellum/api"
	"vellum/codec"
	"vellum/disk"
	"vellum/node"
	"vellum/pool"
	"vellum/store"
	"vellum/trial"
)

// plain says the chapter's words over a pool, slot by slot: a model of the table, on a disk of its own.
type plain struct {
	*pool.Pool
}

// read tells what a slot holds: ErrNode of an empty one, ErrCorrupt of a broken one.
func (m plain) read(number int) (api.Node, api.Errno) {
	block, e := m.Get(2 + (number-1)/4)
	if e != api.OK {
		return api.Node{}, e
	}
	from := 128 * ((number - 1) % 4)
	if bytes.Equal(block[from:from+128], make([]byte, 128)) {
		return api.Node{}, api.ErrNode
	}
	n, e := codec.DecodeNode(block[from : from+128])
	if e != api.OK || n.Kind == api.KNone {
		return api.Node{}, api.ErrCorrupt
	}
	return n, api.OK
}

func (m plain) write(number int, data []byte) api.Errno {
	block, e := m.Get(2 + (number-1)/4)
	if e != api.OK {
		return e
	}
	for i, x := range data {
		block[128*((number-1)%4)+i] = x
	}
	return m.Put(2+(number-1)/4, block)
}

func (m plain) load(number int) (api.Node, api.Errno) {
	if e := m.State(); e != api.OK {
		return api.Node{}, e
	}
	if number < 1 || number > m.Layout().Nodes {
		return api.Node{}, api.ErrRange
	}
	n, e := m.read(number)
	if e == api.ErrCorrupt {
		m.Spoil(e)
	}
	return n, e
}

func (m plain) make(kind, parent int) (int, api.Errno) {
	switch state := m.State(); {
	case state != api.OK:
		return 0, state
	case kind < 1 || kind > 3:
		return 0, api.ErrArg
	case kind == 2 && (parent < 1 || parent > m.Layout().Nodes):
		return 0, api.ErrRange
	case kind != 2 && parent != 0:
		return 0, api.ErrArg
	}
	number, e := m.TakeNode()
	if e != api.OK {
		return 0, e
	}
	n := api.Node{Kind: kind, Parent: parent, Links: []int{0, 0, 2, 0}[kind]}
	data, _ := codec.EncodeNode(n)
	if e := m.write(number, data); e != api.OK {
		return 0, e
	}
	return number, api.OK
}

func (m plain) save(number int, n api.Node) api.Errno {
	if e := m.State(); e != api.OK {
		return e
	}
	if number < 1 || number > m.Layout().Nodes {
		return api.ErrRange
	}
	data, e := codec.EncodeNode(n)
	if e != api.OK || n == (api.Node{}) {
		return api.ErrField
	}
	old, e := m.load(number)
	if e != api.OK {
		return e
	}
	if old.Kind != n.Kind {
		return api.ErrArg
	}
	return m.write(number, data)
}

func (m plain) free(number int) api.Errno {
	old, e := m.load(number)
	if e != api.OK {
		return e
	}
	if old.Owned > 0 {
		return api.ErrOwned
	}
	if e := m.DropNode(number); e != api.OK {
		return e
	}
	return m.write(number, make([]byte, 128))
}

func (m plain) all(kind int) ([]int, api.Errno) {
	if e := m.State(); e != api.OK {
		return nil, e
	}
	if kind < 0 || kind > 3 {
		return nil, api.ErrArg
	}
	var list []int
	for number := 1; number <= m.Layout().Nodes; number++ {
		n, e := m.read(number)
		if e == api.ErrCorrupt {
			return nil, m.Spoil(e)
		}
		if e == api.OK && (kind == 0 || kind == n.Kind) {
			list = append(list, number)
		}
	}
	return list, api.OK
}

// game plays each call at a table and at the model, on two disks that must stay alike byte for byte.
type game struct {
	t      *testing.T
	dice   *trial.Dice
	d, md  *disk.Disk
	s, ms  *store.Store
	k      [2]*node.Table // two tables on one transaction
	m      plain
	nodes  int
	answer map[api.Errno]int // how often the calls of the table answered what
}

func (g *game) open() {
	g.t.Helper()
	g.s, g.ms = opened(g.t, g.d), opened(g.t, g.md)
	g.begin()
}

func (g *game) begin() {
	g.t.Helper()
	tx := trial.Begun(g.t, g.s)
	g.k = [2]*node.Table{node.On(pool.On(tx)), node.On(pool.On(tx))}
	g.m = plain{pool.On(trial.Begun(g.t, g.ms))}
}

func (g *game) same(what string, got, want api.Errno) {
	g.t.Helper()
	g.answer[got]++
	is(g.t, what, got, want)
}

// alike holds the bitmaps and the table, or in their stead the transaction's refusal, against the model's.
func (g *game) alike(what string) {
	g.t.Helper()
	for b := range 2 + g.nodes/4 {
		data, e := g.k[b%2].Get(b)
		want, wantE := g.m.Get(b)
		is(g.t, what+", then Get", e, wantE)
		if !bytes.Equal(data, want) {
			g.t.Fatalf("P707: behind %s block %d holds other bytes", what, b)
		}
		if e != api.OK {
			return
		}
	}
}

// number draws a node's number: most are among the first, some are none.
func (g *game) number() int {
	d := g.dice
	return trial.One(d, 1+d.Below(g.nodes), 1+d.Below(g.nodes), 1+d.Below(min(8, g.nodes)), 1+d.Below(min(8, g.nodes)), g.nodes, g.nodes-d.Below(4), 1+d.Below(4), d.Below(1100)-30)
}

// node draws a node; most of them fit.
func (g *game) node(kind int) api.Node {
	d := g.dice
	n := api.Node{Kind: kind, Links: d.Below(65), Size: d.Below(api.MaxFile + 1), Owned: trial.One(d, 0, 0, 1, d.Below(2049))}
	if kind == api.KDir {
		n.Parent = 1 + d.Below(1024)
	}
	for i := range n.Direct {
		n.Direct[i] = d.Below(2048)
	}
	n.Single, n.Double = d.Below(2048), d.Below(2048)
	switch d.Below(24) {
	case 0:
		return wrong[d.Below(len(wrong))]
	case 1:
		n.Kind = d.Below(6) - 1
	case 2:
		n.Direct[d.Below(10)] = trial.One(d, -1, 2048)
	}
	return n
}

func (g *game) makes(k *node.Table) string {
	g.t.Helper()
	d := g.dice
	kind := trial.One(d, 1, 2, 2, 3, 1, 2, d.Below(6)-1)
	parent := trial.One(d, 0, 0, d.Below(g.nodes+3)-1)
	if kind == api.KDir && d.Below(4) > 0 {
		parent = 1 + d.Below(g.nodes)
	}
	want, wantE := g.m.make(kind, parent)
	got, e := k.Make(kind, parent)
	g.same("Make", e, wantE)
	if got != want {
		g.t.Fatalf("P702: Make(%d, %d): %d, want %d", kind, parent, got, want)
	}
	return "Make"
}

func (g *game) loads(k *node.Table) string {
	g.t.Helper()
	number := g.number()
	want, wantE := g.m.load(number)
	got, e := k.Load(number)
	g.same("Load", e, wantE)
	if got != want {
		g.t.Fatalf("P703: Load(%d): %+v, want %+v", number, got, want)
	}
	return "Load"
}

func (g *game) saves(k *node.Table) string {
	g.t.Helper()
	number := g.number()
	kind := 1 + g.dice.Below(3)
	if number >= 1 && number <= g.nodes && g.dice.Below(8) > 0 {
		if old, e := g.m.read(number); e == api.OK {
			kind = old.Kind
		}
	}
	n := g.node(kind)
	g.same("Save", k.Save(number, n), g.m.save(number, n))
	return "Save"
}

func (g *game) frees(k *node.Table) string {
	g.t.Helper()
	number := g.number()
	g.same("Free", k.Free(number), g.m.free(number))
	return "Free"
}

func (g *game) alls(k *node.Table) string {
	g.t.Helper()
	kind := trial.One(g.dice, 0, 1, 2, 3, g.dice.Below(6)-1)
	want, wantE := g.m.all(kind)
	got, e := k.All(kind)
	g.same("All", e, wantE)
	if !slices.Equal(got, want) {
		g.t.Fatalf("P706: All(%d): %v, want %v", kind, got, want)
	}
	return "All"
}

// put lays something into a block beside the table's calls: a bitmap, a node in its slot, a broken slot, or a data block.
func (g *game) put(k *node.Table) string {
	g.t.Helper()
	d := g.dice
	number := 1 + d.Below(g.nodes)
	block, from := 2+(number-1)/4, 128*((number-1)%4)
	data, e := k.Get(block)
	if e != api.OK {
		return "Get"
	}
	switch d.Below(20) {
	case 0:
		data[d.Below(512)] ^= 1 << d.Below(8)
	case 1, 2, 3, 4:
		copy(data[from:], make([]byte, 128))
	case 5, 6, 7, 8, 9:
		n := g.node(1 + d.Below(3))
		if record, e := codec.EncodeNode(n); e == api.OK {
			copy(data[from:], record)
		}
	case 10, 11, 12, 13:
		block, data = 1, d.Bytes(512)
	case 14:
		block, data = 1, trial.One(d, fill(255), fill(0))
	default:
		block, data = g.m.Layout().Data+d.Below(g.m.Layout().Blocks-g.m.Layout().Data), d.Bytes(512)
	}
	is(g.t, "Put", k.Put(block, data), g.m.Put(block, data))
	return "Put"
}

// many puts data blocks, up to the edge of what a transaction may put.
func (g *game) many(k *node.Table) string {
	g.t.Helper()
	l := k.Layout()
	for b := l.Data; b < min(l.Blocks, l.Data+13+g.dice.Below(4)); b++ {
		data := g.dice.Bytes(512)
		is(g.t, "Put", k.Put(b, data), g.m.Put(b, data))
	}
	return "Puts"
}

// bits makes a call of the pool, which the table knows only by what it leaves in the bitmap.
func (g *game) bits(k *node.Table) string {
	g.t.Helper()
	if g.dice.Below(2) == 0 {
		want, wantE := g.m.TakeNode()
		got, e := k.TakeNode()
		is(g.t, "TakeNode", e, wantE)
		if got != want {
			g.t.Fatalf("TakeNode: %d, want %d", got, want)
		}
		return "TakeNode"
	}
	number := g.number()
	is(g.t, "DropNode", k.DropNode(number), g.m.DropNode(number))
	return "DropNode"
}

// end ends the transaction, and begins another.
func (g *game) end(k *node.Table, commit bool) string {
	g.t.Helper()
	if commit && k.State() == api.OK {
		is(g.t, "Commit", k.Commit(), g.m.Commit())
	} else {
		is(g.t, "Abort", k.Abort(), g.m.Abort())
	}
	asks(g.t, k, api.ErrEnded)
	if g.dice.Below(4) == 0 && !bytes.Equal(g.d.Image(), g.md.Image()) {
		g.t.Fatal("the disks are unlike")
	}
	g.begin()
	return "Commit"
}

// cut takes the power away, with the same picks on both disks.
func (g *game) cut() string {
	g.t.Helper()
	if g.dice.Below(2) == 0 {
		is(g.t, "Sync", g.s.Sync(), g.ms.Sync())
	}
	var picks []api.Pick
	for range g.dice.Below(4) {
		picks = append(picks, api.Pick{A: g.dice.Below(2), B: g.dice.Below(2), Cut: g.dice.Below(513)})
	}
	old := g.k
	g.d.Crash(picks)
	g.md.Crash(picks)
	asks(g.t, old[0], api.ErrDead)
	g.open()
	return "Crash"
}

// step plays one drawn call.
func (g *game) step() string {
	g.t.Helper()
	k := g.k[g.dice.Below(2)]
	if k.State() != api.OK && g.dice.Below(3) == 0 { // else it goes on, to be refused
		return g.end(k, false)
	}
	switch what := g.dice.Below(60); {
	case what < 1:
		return g.cut()
	case what < 3:
		return g.end(k, false)
	case what < 10:
		return g.end(k, true)
	case what < 16:
		return g.put(k)
	case what < 17:
		return g.many(k)
	case what < 20:
		return g.bits(k)
	case what < 31:
		return g.makes(k)
	case what < 38:
		return g.loads(k)
	case what < 49:
		return g.saves(k)
	case what < 57:
		return g.frees(k)
	default:
		return g.alls(k)
	}
}

// P701 to P707, whatever the blocks hold.
func TestP707Drawn(t *testing.T) {
	t.Parallel()
	g := &game{t: t, dice: newDice(7), answer: map[api.Errno]int{}}
	for round := range 48 {
		form := forms[round%len(forms)]
		g.d, g.md, g.nodes = formatted(t, form), formatted(t, form), form.Nodes
		g.open()
		for range 300 {
			g.alike(g.step())
		}
	}
	for _, e := range []api.Errno{api.OK, api.ErrArg, api.ErrRange, api.ErrNode, api.ErrField, api.ErrOwned, api.ErrFree, api.ErrCorrupt, api.ErrNoNodes, api.ErrBudget} {
		if g.answer[e] < 20 {
			t.Errorf("the draw is thin: %v was answered %d times", e, g.answer[e])
		}
	}
}
