package span_test

import (
	"encoding/binary"
	"slices"
	"testing"

	"vellum/api"
	"vellum/node"
	"vellum/pool"
	"vellum/span"
	"vellum/store"
	"vellum/trial"
)

// plain says the chapter's words over a table of nodes, by lists of all the pointers of a node: a model of the map, on a disk of its own. Once a call of the layers below has spoilt the transaction, all others are refused; so it is enough to ask at the end.
type plain struct {
	*node.Table
}

// pointers are those of an indirect block; where there is none, or it may not be asked for, zeros.
func (m plain) pointers(block int) []int {
	list := make([]int, 128)
	if data, e := m.Get(block); block != 0 && e == api.OK {
		for i := range list {
			list[i] = int(binary.LittleEndian.Uint32(data[4*i:]))
		}
	}
	return list
}

func (m plain) put(block int, pointers []int) {
	var data []byte
	for _, pointer := range pointers {
		data = binary.LittleEndian.AppendUint32(data, uint32(pointer))
	}
	m.Put(block, data)
}

// all are the blocks at all indexes.
func (m plain) all(n api.Node) []int {
	list := slices.Clone(n.Direct[:])
	list = append(list, m.pointers(n.Single)...)
	for _, leaf := range m.pointers(n.Double) {
		list = append(list, m.pointers(leaf)...)
	}
	return list
}

// open is the node, if these are indexes up to 16521, or their end.
func (m plain) open(number, from, to int) (api.Node, api.Errno) {
	if e := m.State(); e != api.OK {
		return api.Node{}, e
	}
	if number < 1 || number > m.Layout().Nodes || from < 0 || from > 16522 || to < from || to > 16522 {
		return api.Node{}, api.ErrRange
	}
	return m.Load(number)
}

func (m plain) where(number, index int) (int, api.Errno) {
	n, e := m.open(number, index, index+1)
	if e != api.OK {
		return 0, e
	}
	return m.all(n)[index], api.OK
}

// missing counts the blocks that an index without a block takes.
func (m plain) missing(n api.Node, index int) int {
	switch {
	case index < 10 || index < 138 && n.Single != 0:
		return 1
	case index < 138:
		return 2
	case n.Double == 0:
		return 3
	case m.pointers(n.Double)[(index-138)/128] == 0:
		return 2
	}
	return 1
}

func (m plain) grow(number, index int) (int, bool, api.Errno) {
	n, e := m.open(number, index, index+1)
	if e != api.OK {
		return 0, false, e
	}
	if b := m.all(n)[index]; b != 0 {
		return b, false, api.OK
	}
	missing := m.missing(n, index)
	if free, _, _ := m.Left(); free < missing {
		return 0, false, m.Spoil(api.ErrNoSpace)
	}
	var took []int
	for range missing {
		b, _ := m.TakeBlock()
		m.Put(b, make([]byte, 512))
		took = append(took, b)
	}
	n.Owned += missing
	data := took[missing-1]
	if index < 10 {
		n.Direct[index] = data
	} else if index < 138 {
		if missing == 2 {
			n.Single = took[0]
		}
		m.name(n.Single, index-10, data)
	} else {
		if missing == 3 {
			n.Double = took[0]
		}
		if missing > 1 {
			m.name(n.Double, (index-138)/128, took[missing-2])
		}
		m.name(m.pointers(n.Double)[(index-138)/128], (index-138)%128, data)
	}
	m.Save(number, n)
	if e := m.State(); e != api.OK {
		return 0, false, e
	}
	return data, true, api.OK
}

// name writes one pointer of an indirect block.
func (m plain) name(block, place, pointer int) {
	list := m.pointers(block)
	list[place] = pointer
	m.put(block, list)
}

func (m plain) punch(number, from, to int) api.Errno {
	n, e := m.open(number, from, to)
	if e != api.OK {
		return e
	}
	was := m.all(n)
	now := slices.Clone(was)
	clear(now[from:to])
	if slices.Equal(was, now) {
		return api.OK
	}
	for _, b := range was[from:to] {
		if b != 0 {
			m.DropBlock(b)
			n.Owned--
		}
	}
	copy(n.Direct[:], now)
	n.Single = m.follow(&n, n.Single, was[10:138], now[10:138])
	leaves := m.pointers(n.Double)
	after := slices.Clone(leaves)
	for i, leaf := range leaves {
		at := 138 + 128*i
		after[i] = m.follow(&n, leaf, was[at:at+128], now[at:at+128])
	}
	n.Double = m.follow(&n, n.Double, leaves, after)
	m.Save(number, n)
	return m.State()
}

// follow lets an indirect block follow its pointers; it answers the block, or 0 if it is freed.
func (m plain) follow(n *api.Node, block int, was, now []int) int {
	switch {
	case slices.Equal(was, now):
		return block
	case slices.Max(now) > 0:
		m.put(block, now)
		return block
	}
	m.DropBlock(block)
	n.Owned--
	return 0
}

func (m plain) runs(number int) ([]api.Run, api.Errno) {
	n, e := m.open(number, 0, 0)
	if e != api.OK {
		return nil, e
	}
	var indexes []int
	for i, b := range m.all(n) {
		if b != 0 {
			indexes = append(indexes, i)
		}
	}
	return rows(indexes), api.OK
}

// game plays each call at a map and at the model.
type game struct {
	*trial.Twins
	t *testing.T
	k [2]*span.Map // two maps on one transaction
	m plain
}

func newGame(t *testing.T, seed int) *game {
	g := &game{t: t}
	g.Twins = &trial.Twins{
		T:    t,
		Dice: newDice(seed),
		On: func(tested, model *store.Tx) {
			g.k = [2]*span.Map{on(tested), on(tested)}
			g.m = plain{node.On(pool.On(model))}
		},
		Refused: func(want api.Errno) { asks(t, g.k[0], want) },
	}
	return g
}

// start begins with stores of that form, which hold three files.
func (g *game) start(form api.Super) {
	g.t.Helper()
	g.Start(form)
	g.Same("Clear", g.k[0].Clear(), g.m.Clear())
	for range 3 {
		g.k[0].Make(api.KFile, 0)
		g.m.Make(api.KFile, 0)
	}
	g.Commit()
}

// number draws a node's number: most are those of nodes, some of none.
func (g *game) number() int {
	d := g.Dice
	return trial.One(d, 1, 1, 2, 2, 3, 1+d.Below(4), 1+d.Below(4), 1+d.Below(g.m.Layout().Nodes), d.Below(15)-1)
}

// index draws one: most are near a seam, so that many are asked for twice.
func (g *game) index() int {
	d := g.Dice
	return trial.One(d, d.Below(10), d.Below(14), 10+d.Below(4), 134+d.Below(8), 138+128*d.Below(3)+d.Below(2), 16521-d.Below(3), 138+128*d.Below(128)-d.Below(2), seams[d.Below(len(seams))], d.Below(16522), d.Below(16530)-3)
}

func (g *game) wheres(k *span.Map) string {
	g.t.Helper()
	number, index := g.number(), g.index()
	want, wantE := g.m.where(number, index)
	got, e := k.Where(number, index)
	g.Same("Where", e, wantE)
	if got != want {
		g.t.Fatalf("P801: Where(%d, %d): %d, want %d", number, index, got, want)
	}
	return "Where"
}

func (g *game) grows(k *span.Map) string {
	g.t.Helper()
	number, index := g.number(), g.index()
	want, wantFresh, wantE := g.m.grow(number, index)
	got, fresh, e := k.Grow(number, index)
	g.Same("Grow", e, wantE)
	if got != want || fresh != wantFresh {
		g.t.Fatalf("P802: Grow(%d, %d): %d, %v, want %d, %v", number, index, got, fresh, want, wantFresh)
	}
	return "Grow"
}

func (g *game) punches(k *span.Map) string {
	g.t.Helper()
	number, from := g.number(), g.index()
	to := trial.One(g.Dice, from+1, from+2, from+3+g.Dice.Below(20), from+g.Dice.Below(400), from, g.index(), g.index())
	g.Same("Punch", k.Punch(number, from, to), g.m.punch(number, from, to))
	return "Punch"
}

func (g *game) cuts(k *span.Map) string {
	g.t.Helper()
	number, from := g.number(), trial.One(g.Dice, g.index(), g.index(), 16522, 16523)
	g.Same("Cut", k.Cut(number, from), g.m.punch(number, from, 16522))
	return "Cut"
}

func (g *game) runs(k *span.Map) string {
	g.t.Helper()
	number := g.number()
	want, wantE := g.m.runs(number)
	got, e := k.Runs(number)
	g.Same("Runs", e, wantE)
	if !slices.Equal(got, want) {
		g.t.Fatalf("P805: Runs(%d): %v, want %v", number, got, want)
	}
	return "Runs"
}

// nodes makes a call of the table: a node more, or one less, or one of another size.
func (g *game) nodes(k *span.Map) string {
	g.t.Helper()
	number := g.number()
	switch g.Dice.Below(4) {
	case 0:
		got, e := k.Make(api.KFile, 0)
		want, wantE := g.m.Make(api.KFile, 0)
		if got != want || e != wantE {
			g.t.Fatalf("Make: %d, %v, want %d, %v", got, e, want, wantE)
		}
	case 1:
		is(g.t, "Free", k.Free(number), g.m.Free(number))
	default:
		n, e := g.m.Load(number)
		if n.Size = g.Dice.Below(9999); e == api.OK {
			is(g.t, "Save", k.Save(number, n), g.m.Save(number, n))
		}
	}
	return "a call of the table"
}

// puts lays bytes into blocks that are free or hold data: that is nobody's business here, but for the budget.
func (g *game) puts(count int) string {
	g.t.Helper()
	l := g.m.Layout()
	indirects := map[int]bool{}
	for number := 1; number <= l.Nodes; number++ {
		n, _ := g.m.Load(number)
		for _, b := range append(g.m.pointers(n.Double), n.Single, n.Double) {
			indirects[b] = true
		}
	}
	for range count {
		if b := l.Data + g.Dice.Below(l.Blocks-l.Data); !indirects[b] {
			g.Put(b, trial.One(g.Dice, g.Dice.Bytes(512), fill(0)))
		}
	}
	return "Put"
}

// step plays one drawn call.
func (g *game) step() string {
	g.t.Helper()
	if what := g.End(); what != "" {
		return what
	}
	k := g.k[g.Dice.Below(2)]
	switch what := g.Dice.Below(50); {
	case what < 3:
		return g.nodes(k)
	case what < 5:
		return g.puts(trial.One(g.Dice, 1, 3, 16))
	case what < 30:
		return g.grows(k)
	case what < 38:
		return g.punches(k)
	case what < 40:
		return g.cuts(k)
	case what < 49:
		return g.wheres(k)
	default:
		return g.runs(k)
	}
}

// Stores with little room and with much.
var forms = []api.Super{
	small,
	{Sectors: 32, Log: 18, Nodes: 4},
	{Sectors: 200, Log: 40, Nodes: 12},
	{Sectors: 64, Log: 20, Nodes: 8},
	{Sectors: 28, Log: 18, Nodes: 8},
}

// P801 to P806: all blocks are the model's behind every call.
func TestP801P806Drawn(t *testing.T) {
	t.Parallel()
	g := newGame(t, 801)
	for round := range 30 {
		g.start(forms[round%len(forms)])
		for range 400 {
			g.Alike(g.step(), g.m.Layout().Blocks)
		}
	}
	g.Answered(api.OK, api.ErrRange, api.ErrNode, api.ErrNoSpace, api.ErrBudget)
}

// The same in a store of many blocks, where nodes grow large.
func TestP801P806DrawnLarge(t *testing.T) {
	t.Parallel()
	g := newGame(t, 802)
	g.start(large)
	for range 6 {
		for range 300 {
			g.grows(g.k[0])
			if g.Dice.Below(3) == 0 || g.k[0].State() != api.OK {
				g.Commit()
			}
		}
		for range 60 {
			g.Alike(g.step(), g.m.Layout().Blocks)
		}
	}
}
