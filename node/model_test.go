package node_test

import (
	"bytes"
	"slices"
	"testing"

	"vellum/api"
	"vellum/codec"
	"vellum/node"
	"vellum/pool"
	"vellum/store"
	"vellum/trial"
)

// plain says the chapter's words over a pool, slot by slot: a model of the table, on a disk of its own.
type plain struct {
	*pool.Pool
}

// read tells what a slot holds: ErrNode of an empty one, ErrCorrupt of a broken one.
func (m plain) read(number int) (api.Node, api.Errno) {
	block, e := m.Get(2 + (number-1)/4)
	if e != api.OK {
		return api.Node{}, e
	}
	from := 128 * ((number - 1) % 4)
	if bytes.Equal(block[from:from+128], make([]byte, 128)) {
		return api.Node{}, api.ErrNode
	}
	n, e := codec.DecodeNode(block[from : from+128])
	if e != api.OK || n.Kind == api.KNone {
		return api.Node{}, api.ErrCorrupt
	}
	return n, api.OK
}

func (m plain) write(number int, data []byte) api.Errno {
	block, e := m.Get(2 + (number-1)/4)
	if e != api.OK {
		return e
	}
	for i, x := range data {
		block[128*((number-1)%4)+i] = x
	}
	return m.Put(2+(number-1)/4, block)
}

func (m plain) load(number int) (api.Node, api.Errno) {
	if e := m.State(); e != api.OK {
		return api.Node{}, e
	}
	if number < 1 || number > m.Layout().Nodes {
		return api.Node{}, api.ErrRange
	}
	n, e := m.read(number)
	if e == api.ErrCorrupt {
		m.Spoil(e)
	}
	return n, e
}

func (m plain) make(kind, parent int) (int, api.Errno) {
	switch state := m.State(); {
	case state != api.OK:
		return 0, state
	case kind < 1 || kind > 3:
		return 0, api.ErrArg
	case kind == 2 && (parent < 1 || parent > m.Layout().Nodes):
		return 0, api.ErrRange
	case kind != 2 && parent != 0:
		return 0, api.ErrArg
	}
	number, e := m.TakeNode()
	if e != api.OK {
		return 0, e
	}
	n := api.Node{Kind: kind, Parent: parent, Links: []int{0, 0, 2, 0}[kind]}
	data, _ := codec.EncodeNode(n)
	if e := m.write(number, data); e != api.OK {
		return 0, e
	}
	return number, api.OK
}

func (m plain) save(number int, n api.Node) api.Errno {
	if e := m.State(); e != api.OK {
		return e
	}
	if number < 1 || number > m.Layout().Nodes {
		return api.ErrRange
	}
	data, e := codec.EncodeNode(n)
	if e != api.OK || n == (api.Node{}) {
		return api.ErrField
	}
	old, e := m.load(number)
	if e != api.OK {
		return e
	}
	if old.Kind != n.Kind {
		return api.ErrArg
	}
	return m.write(number, data)
}

func (m plain) free(number int) api.Errno {
	old, e := m.load(number)
	if e != api.OK {
		return e
	}
	if old.Owned > 0 {
		return api.ErrOwned
	}
	if e := m.DropNode(number); e != api.OK {
		return e
	}
	return m.write(number, make([]byte, 128))
}

func (m plain) all(kind int) ([]int, api.Errno) {
	if e := m.State(); e != api.OK {
		return nil, e
	}
	if kind < 0 || kind > 3 {
		return nil, api.ErrArg
	}
	var list []int
	for number := 1; number <= m.Layout().Nodes; number++ {
		n, e := m.read(number)
		if e == api.ErrCorrupt {
			return nil, m.Spoil(e)
		}
		if e == api.OK && (kind == 0 || kind == n.Kind) {
			list = append(list, number)
		}
	}
	return list, api.OK
}

// game plays each call at a table and at the model.
type game struct {
	*trial.Twins
	t     *testing.T
	k     [2]*node.Table // two tables on one transaction
	m     plain
	nodes int
}

func newGame(t *testing.T) *game {
	g := &game{t: t}
	g.Twins = &trial.Twins{
		T:    t,
		Dice: newDice(7),
		On: func(tested, model *store.Tx) {
			g.k = [2]*node.Table{node.On(pool.On(tested)), node.On(pool.On(tested))}
			g.m = plain{pool.On(model)}
		},
		Refused: func(want api.Errno) { asks(t, g.k[0], want) },
	}
	return g
}

// number draws a node's number: most are among the first, some are none.
func (g *game) number() int {
	d := g.Dice
	return trial.One(d, 1+d.Below(g.nodes), 1+d.Below(g.nodes), 1+d.Below(min(8, g.nodes)), 1+d.Below(min(8, g.nodes)), g.nodes, g.nodes-d.Below(4), 1+d.Below(4), d.Below(1100)-30)
}

// node draws a node; most of them fit.
func (g *game) node(kind int) api.Node {
	d := g.Dice
	n := api.Node{Kind: kind, Links: d.Below(65), Size: d.Below(api.MaxFile + 1), Owned: trial.One(d, 0, 0, 1, d.Below(2049))}
	if kind == api.KDir {
		n.Parent = 1 + d.Below(1024)
	}
	for i := range n.Direct {
		n.Direct[i] = d.Below(2048)
	}
	n.Single, n.Double = d.Below(2048), d.Below(2048)
	switch d.Below(24) {
	case 0:
		return wrong[d.Below(len(wrong))]
	case 1:
		n.Kind = d.Below(6) - 1
	case 2:
		n.Direct[d.Below(10)] = trial.One(d, -1, 2048)
	}
	return n
}

func (g *game) makes(k *node.Table) string {
	g.t.Helper()
	d := g.Dice
	kind := trial.One(d, 1, 2, 2, 3, 1, 2, d.Below(6)-1)
	parent := trial.One(d, 0, 0, d.Below(g.nodes+3)-1)
	if kind == api.KDir && d.Below(4) > 0 {
		parent = 1 + d.Below(g.nodes)
	}
	want, wantE := g.m.make(kind, parent)
	got, e := k.Make(kind, parent)
	g.Same("Make", e, wantE)
	if got != want {
		g.t.Fatalf("P702: Make(%d, %d): %d, want %d", kind, parent, got, want)
	}
	return "Make"
}

func (g *game) loads(k *node.Table) string {
	g.t.Helper()
	number := g.number()
	want, wantE := g.m.load(number)
	got, e := k.Load(number)
	g.Same("Load", e, wantE)
	if got != want {
		g.t.Fatalf("P703: Load(%d): %+v, want %+v", number, got, want)
	}
	return "Load"
}

func (g *game) saves(k *node.Table) string {
	g.t.Helper()
	number := g.number()
	kind := 1 + g.Dice.Below(3)
	if number >= 1 && number <= g.nodes && g.Dice.Below(8) > 0 {
		if old, e := g.m.read(number); e == api.OK {
			kind = old.Kind
		}
	}
	n := g.node(kind)
	g.Same("Save", k.Save(number, n), g.m.save(number, n))
	return "Save"
}

func (g *game) frees(k *node.Table) string {
	g.t.Helper()
	number := g.number()
	g.Same("Free", k.Free(number), g.m.free(number))
	return "Free"
}

func (g *game) alls(k *node.Table) string {
	g.t.Helper()
	kind := trial.One(g.Dice, 0, 1, 2, 3, g.Dice.Below(6)-1)
	want, wantE := g.m.all(kind)
	got, e := k.All(kind)
	g.Same("All", e, wantE)
	if !slices.Equal(got, want) {
		g.t.Fatalf("P706: All(%d): %v, want %v", kind, got, want)
	}
	return "All"
}

// put lays something into a block beside the table's calls: a bitmap, a node in its slot, a broken slot, or a data block.
func (g *game) put(k *node.Table) string {
	g.t.Helper()
	d := g.Dice
	number := 1 + d.Below(g.nodes)
	block, from := 2+(number-1)/4, 128*((number-1)%4)
	data, e := k.Get(block)
	if e != api.OK {
		return "Get"
	}
	switch d.Below(20) {
	case 0:
		data[d.Below(512)] ^= 1 << d.Below(8)
	case 1, 2, 3, 4:
		copy(data[from:], make([]byte, 128))
	case 5, 6, 7, 8, 9:
		n := g.node(1 + d.Below(3))
		if record, e := codec.EncodeNode(n); e == api.OK {
			copy(data[from:], record)
		}
	case 10, 11, 12, 13:
		block, data = 1, d.Bytes(512)
	case 14:
		block, data = 1, trial.One(d, fill(255), fill(0))
	default:
		block, data = g.m.Layout().Data+d.Below(g.m.Layout().Blocks-g.m.Layout().Data), d.Bytes(512)
	}
	g.Put(block, data)
	return "Put"
}

// many puts data blocks, up to the edge of what a transaction may put.
func (g *game) many(k *node.Table) string {
	g.t.Helper()
	l := k.Layout()
	for b := l.Data; b < min(l.Blocks, l.Data+13+g.Dice.Below(4)); b++ {
		g.Put(b, g.Dice.Bytes(512))
	}
	return "Puts"
}

// bits makes a call of the pool, which the table knows only by what it leaves in the bitmap.
func (g *game) bits(k *node.Table) string {
	g.t.Helper()
	if g.Dice.Below(2) == 0 {
		want, wantE := g.m.TakeNode()
		got, e := k.TakeNode()
		is(g.t, "TakeNode", e, wantE)
		if got != want {
			g.t.Fatalf("TakeNode: %d, want %d", got, want)
		}
		return "TakeNode"
	}
	number := g.number()
	is(g.t, "DropNode", k.DropNode(number), g.m.DropNode(number))
	return "DropNode"
}

// step plays one drawn call.
func (g *game) step() string {
	g.t.Helper()
	if what := g.End(); what != "" {
		return what
	}
	k := g.k[g.Dice.Below(2)]
	switch what := g.Dice.Below(50); {
	case what < 6:
		return g.put(k)
	case what < 7:
		return g.many(k)
	case what < 10:
		return g.bits(k)
	case what < 21:
		return g.makes(k)
	case what < 28:
		return g.loads(k)
	case what < 39:
		return g.saves(k)
	case what < 47:
		return g.frees(k)
	default:
		return g.alls(k)
	}
}

// P701 to P707, whatever the blocks hold: the bitmaps and the table are the model's behind every call.
func TestP707Drawn(t *testing.T) {
	t.Parallel()
	g := newGame(t)
	for round := range 48 {
		form := forms[round%len(forms)]
		g.nodes = form.Nodes
		g.Start(form)
		for range 300 {
			g.Alike(g.step(), 2+form.Nodes/4)
		}
	}
	g.Answered(api.OK, api.ErrArg, api.ErrRange, api.ErrNode, api.ErrField, api.ErrOwned, api.ErrFree, api.ErrCorrupt, api.ErrNoNodes, api.ErrBudget)
}
