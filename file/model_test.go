package file_test

import (
	"testing"

	"vellum/api"
	"vellum/file"
	"vellum/node"
	"vellum/pool"
	"vellum/span"
	"vellum/store"
	"vellum/trial"
)

// plain says the chapter's words over a map, byte by byte and index by index: a model of the files, on a disk of its own. Once a call of the layers below has spoilt the transaction, all others are refused; so it is enough to ask at the end.
type plain struct {
	*span.Map
}

// open is the node, if nothing speaks against the call.
func (m plain) open(number int, rules ...rule) (api.Node, api.Errno) {
	if e := m.State(); e != api.OK {
		return api.Node{}, e
	}
	if number < 1 || number > m.Layout().Nodes {
		return api.Node{}, api.ErrRange
	}
	if e := first(rules...); e != api.OK {
		return api.Node{}, e
	}
	return m.Load(number)
}

// block are the bytes at an index: zeros, if it is a hole.
func (m plain) block(number, index int) []byte {
	if block, _ := m.Where(number, index); block != 0 {
		data, _ := m.Get(block)
		return data
	}
	return make([]byte, 512)
}

func (m plain) readAt(number, off, n int) (string, api.Errno) {
	node, e := m.open(number, rule{off < 0, api.ErrArg}, rule{n < 0, api.ErrArg}, rule{n > 65536, api.ErrLong})
	if e != api.OK {
		return "", e
	}
	var data, block []byte
	for place := off; place < node.Size && len(data) < n; place++ {
		if block == nil || place%512 == 0 {
			block = m.block(number, place/512)
		}
		data = append(data, block[place%512])
	}
	return string(data), api.OK
}

// change puts a block, with the bytes that are told of its places, if they are to change.
func (m plain) change(block, index int, byteAt func(place int) (byte, bool)) {
	data, e := m.Get(block)
	for i := range data {
		if b, changes := byteAt(512*index + i); changes {
			data[i] = b
		}
	}
	if e == api.OK {
		m.Put(block, data)
	}
}

func (m plain) setSize(number, size int) {
	if n, e := m.Load(number); e == api.OK {
		n.Size = size
		m.Save(number, n)
	}
}

func (m plain) writeAt(number, off int, data string) api.Errno {
	end := uint64(off) + uint64(len(data))
	step := len(data) > 0 && uint64(off)/4096 != (end-1)/4096
	n, e := m.open(number, rule{off < 0, api.ErrArg}, rule{end > 8459264, api.ErrBig}, rule{step, api.ErrStep})
	if e != api.OK || len(data) == 0 {
		return e
	}
	for index := off / 512; index <= (off+len(data)-1)/512; index++ {
		block, _, _ := m.Grow(number, index)
		m.change(block, index, func(place int) (byte, bool) {
			if place < off || place >= off+len(data) {
				return 0, false
			}
			return data[place-off], true
		})
	}
	m.setSize(number, max(n.Size, off+len(data)))
	return m.State()
}

func (m plain) resize(number, size int) api.Errno {
	n, e := m.open(number, rule{size < 0, api.ErrArg}, rule{size > 8459264, api.ErrBig})
	if e != api.OK {
		return e
	}
	if size < n.Size {
		from := size / 512
		if size%512 != 0 {
			from++
		}
		m.Cut(number, from)
		if size%512 != 0 {
			m.zero(number, size/512, func(place int) bool { return place >= size })
		}
	}
	m.setSize(number, size)
	return m.State()
}

// zero makes zeros of some bytes of an index, if it holds a block.
func (m plain) zero(number, index int, some func(place int) bool) {
	if block, _ := m.Where(number, index); block != 0 {
		m.change(block, index, func(place int) (byte, bool) { return 0, some(place) })
	}
}

func (m plain) wipe(number, off, n int) api.Errno {
	node, e := m.open(number, rule{off < 0, api.ErrArg}, rule{n < 0, api.ErrArg})
	if e != api.OK {
		return e
	}
	wiped := func(place int) bool {
		return place >= off && uint64(place) < uint64(off)+uint64(n) && place < node.Size
	}
	var whole, parts []int
	for index := 0; 512*index < node.Size; index++ {
		start, last := 512*index, min(512*index+511, node.Size-1)
		switch {
		case wiped(start) && wiped(last):
			whole = append(whole, index)
		case wiped(start) || wiped(last) || off > start && off < last && n > 0:
			parts = append(parts, index)
		}
	}
	if len(whole) > 0 {
		m.Punch(number, whole[0], whole[len(whole)-1]+1)
	}
	for _, index := range parts {
		m.zero(number, index, wiped)
	}
	return m.State()
}

// game plays each call at files and at the model.
type game struct {
	*trial.Twins
	t *testing.T
	f [2]*file.Files // two on one transaction
	m plain
}

func newGame(t *testing.T, seed int) *game {
	g := &game{t: t}
	g.Twins = &trial.Twins{
		T:    t,
		Dice: newDice(seed),
		On: func(tested, model *store.Tx) {
			g.f = [2]*file.Files{on(tested), on(tested)}
			g.m = plain{span.On(node.On(pool.On(model)))}
		},
		Refused: func(want api.Errno) { asks(t, g.f[0], want) },
	}
	return g
}

// start begins with stores of that form, which hold a directory, a file and a link.
func (g *game) start(form api.Super) {
	g.t.Helper()
	g.Start(form)
	g.Same("Clear", g.f[0].Clear(), g.m.Clear())
	for _, kind := range []int{api.KDir, api.KFile, api.KLink} {
		g.f[0].Make(kind, []int{0, 0, 1, 0}[kind])
		g.m.Make(kind, []int{0, 0, 1, 0}[kind])
	}
	g.Commit()
}

// number draws a node's number: most are those of nodes, some of none.
func (g *game) number() int {
	d := g.Dice
	return trial.One(d, 1, 1, 2, 2, 3, 1+d.Below(3), 1+d.Below(3), 1+d.Below(g.m.Layout().Nodes), d.Below(15)-1)
}

// place draws a byte of a content: most are near a seam or near the beginning.
func (g *game) place() int {
	d := g.Dice
	seam := 512 * trial.One(d, 0, 1, 2, 8, 9, 10, 11, 16, 136, 137, 138, 139, 266, d.Below(16523), 16521, 16522)
	return trial.One(d, d.Below(3000), d.Below(9000), 512*d.Below(12), 512*d.Below(12)+d.Below(3)-1, seam, seam, seam+d.Below(5)-2, seam+d.Below(512), d.Below(80000), d.Below(8460000), trial.One(d, -1, 8459265, 1<<62, 1<<63-1))
}

func (g *game) reads(f *file.Files) string {
	g.t.Helper()
	number, off := g.number(), g.place()
	n := trial.One(g.Dice, 1, 3, 512, 513, g.Dice.Below(3000), g.Dice.Below(3000), trial.One(g.Dice, -1, 0, 9000, 65536, 65537))
	want, wantE := g.m.readAt(number, off, n)
	got, e := f.ReadAt(number, off, n)
	g.Same("ReadAt", e, wantE)
	if string(got) != want {
		g.t.Fatalf("ReadAt(%d, %d, %d): %d bytes, want %d; unlike from %d on", number, off, n, len(got), len(want), unlikeAt(string(got), want))
	}
	return "ReadAt"
}

func (g *game) writes(f *file.Files) string {
	g.t.Helper()
	number, off := g.number(), g.place()
	d := g.Dice
	n := trial.One(d, 1, 2, 512, 513, d.Below(600), d.Below(4097), d.Below(4097), trial.One(d, 0, 4096, 4097))
	if off > 0 && d.Below(4) > 0 {
		n = min(n, 4096-off%4096)
	}
	data := trial.One(d, string(d.Bytes(n)), string(make([]byte, n)), text(d, n), text(d, n))
	g.Same("WriteAt", f.WriteAt(number, off, []byte(data)), g.m.writeAt(number, off, data))
	return "WriteAt"
}

func (g *game) resizes(f *file.Files) string {
	g.t.Helper()
	number, size := g.number(), g.place()
	if n, e := g.m.Load(number); e == api.OK && g.Dice.Below(3) == 0 {
		size = max(0, n.Size-3+g.Dice.Below(6))
	}
	g.Same("Resize", f.Resize(number, size), g.m.resize(number, size))
	return "Resize"
}

func (g *game) wipes(f *file.Files) string {
	g.t.Helper()
	number, off := g.number(), g.place()
	d := g.Dice
	n := trial.One(d, 1, 2, 512, 513, 1024, d.Below(3000), d.Below(3000), d.Below(90000), 1<<63-1, trial.One(d, -1, 0))
	if node, e := g.m.Load(number); e == api.OK && d.Below(3) == 0 {
		n = node.Size - off + d.Below(5) - 2
	}
	g.Same("Wipe", f.Wipe(number, off, n), g.m.wipe(number, off, n))
	return "Wipe"
}

// step plays one drawn call.
func (g *game) step() string {
	g.t.Helper()
	if what := g.End(); what != "" {
		return what
	}
	f := g.f[g.Dice.Below(2)]
	switch what := g.Dice.Below(50); {
	case what < 3:
		g.PutFree(trial.One(g.Dice, 1, 3, 10))
		return "Put"
	case what < 24:
		return g.writes(f)
	case what < 32:
		return g.resizes(f)
	case what < 41:
		return g.wipes(f)
	default:
		return g.reads(f)
	}
}

// P901: all answers, and all blocks behind every call, are the model's.
func TestP901Drawn(t *testing.T) {
	t.Parallel()
	forms := []api.Super{
		small,
		{Sectors: 36, Log: 18, Nodes: 4},
		{Sectors: 200, Log: 40, Nodes: 12},
		{Sectors: 90, Log: 20, Nodes: 8},
	}
	g := newGame(t, 901)
	for round := range 20 {
		g.start(forms[round%len(forms)])
		for range 400 {
			g.Alike(g.step(), g.m.Layout().Blocks)
		}
	}
	g.Answered(api.OK, api.ErrRange, api.ErrNode, api.ErrArg, api.ErrLong, api.ErrBig, api.ErrStep, api.ErrNoSpace, api.ErrBudget)
}
