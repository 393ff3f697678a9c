package dir_test

import (
	"slices"
	"strings"
	"testing"

	"vellum/api"
	"vellum/codec"
	"vellum/dir"
	"vellum/file"
	"vellum/node"
	"vellum/pool"
	"vellum/span"
	"vellum/store"
	"vellum/trial"
)

// plain says the chapter's words over files, slot by slot: a model of the directories, on a disk of its own.
type plain struct {
	*file.Files
}

// rule is an error, and whether it applies.
type rule struct {
	wrong bool
	e     api.Errno
}

// arguments are the rules of P1001 that need no disk; a call that names no node hands in one that is right.
func (m plain) arguments(number int, name string, named, kind int) api.Errno {
	if e := m.State(); e != api.OK {
		return e
	}
	nodes := m.Layout().Nodes
	for _, r := range []rule{
		{number < 1 || number > nodes, api.ErrRange},
		{len(name) > 54, api.ErrLong},
		{name == "" || name == "." || name == ".." || strings.ContainsAny(name, "/\x00"), api.ErrName},
		{named < 1 || named > nodes, api.ErrRange},
		{kind < 1 || kind > 3, api.ErrArg},
	} {
		if r.wrong {
			return r.e
		}
	}
	return api.OK
}

// slots are those of a directory, with the empty entry where there is none.
func (m plain) slots(number int) ([]api.Entry, api.Errno) {
	n, e := m.Load(number)
	if e != api.OK {
		return nil, e
	}
	if n.Kind != api.KDir {
		return nil, api.ErrNotDir
	}
	if n.Size%512 != 0 {
		return nil, m.Spoil(api.ErrCorrupt)
	}
	slots := make([]api.Entry, n.Size/64)
	names := map[string]bool{}
	for s := range slots {
		data, e := m.ReadAt(number, 64*s, 64)
		if e != api.OK {
			return nil, e
		}
		slots[s], e = codec.DecodeEntry(data)
		if e != api.OK || slots[s].Name != "" && names[slots[s].Name] {
			return nil, m.Spoil(api.ErrCorrupt)
		}
		names[slots[s].Name] = true
	}
	return slots, api.OK
}

// open are the slots, and the one of the name, or -1.
func (m plain) open(number int, name string, named, kind int) ([]api.Entry, int, api.Errno) {
	if e := m.arguments(number, name, named, kind); e != api.OK {
		return nil, -1, e
	}
	slots, e := m.slots(number)
	return slots, slices.IndexFunc(slots, func(e api.Entry) bool { return e.Name == name }), e
}

func (m plain) look(number int, name string) (api.Entry, api.Errno) {
	slots, at, e := m.open(number, name, 1, 1)
	if e != api.OK {
		return api.Entry{}, e
	}
	if at < 0 {
		return api.Entry{}, api.ErrNotFound
	}
	slots[at].Slot = at
	return slots[at], api.OK
}

func (m plain) add(number int, name string, named, kind int) api.Errno {
	slots, at, e := m.open(number, name, named, kind)
	if e != api.OK {
		return e
	}
	if at >= 0 {
		return api.ErrExists
	}
	data, _ := codec.EncodeEntry(api.Entry{Node: named, Kind: kind, Name: name})
	empty := slices.IndexFunc(slots, func(e api.Entry) bool { return e.Name == "" })
	if empty >= 0 {
		return m.WriteAt(number, 64*empty, data)
	}
	return m.WriteAt(number, 64*len(slots), append(data, make([]byte, 448)...))
}

func (m plain) del(number int, name string) api.Errno {
	slots, at, e := m.open(number, name, 1, 1)
	if e != api.OK {
		return e
	}
	if at < 0 {
		return api.ErrNotFound
	}
	if e := m.WriteAt(number, 64*at, make([]byte, 64)); e != api.OK {
		return e
	}
	slots[at] = api.Entry{}
	size := 64 * len(slots)
	for size > 0 && !slices.ContainsFunc(slots[(size-512)/64:size/64], func(e api.Entry) bool { return e.Name != "" }) {
		size -= 512
	}
	if size == 64*len(slots) {
		return api.OK
	}
	return m.Resize(number, size)
}

func (m plain) swap(number int, name string, named, kind int) api.Errno {
	_, at, e := m.open(number, name, named, kind)
	if e != api.OK {
		return e
	}
	if at < 0 {
		return api.ErrNotFound
	}
	data, _ := codec.EncodeEntry(api.Entry{Node: named, Kind: kind, Name: name})
	return m.WriteAt(number, 64*at, data)
}

// list takes the least name that is left, as long as there is one.
func (m plain) list(number int) ([]api.Entry, api.Errno) {
	slots, _, e := m.open(number, "any", 1, 1)
	var list []api.Entry
	for e == api.OK {
		least := -1
		for s := range slots {
			if slots[s].Name != "" && (least < 0 || slots[s].Name < slots[least].Name) {
				least = s
			}
		}
		if least < 0 {
			break
		}
		slots[least].Slot = least
		list = append(list, slots[least])
		slots[least] = api.Entry{}
	}
	return list, e
}

// game plays each call at directories and at the model.
type game struct {
	*trial.Twins
	t *testing.T
	k [2]*dir.Dirs // two on one transaction
	m plain
}

func newGame(t *testing.T, seed int) *game {
	g := &game{t: t}
	g.Twins = &trial.Twins{
		T:    t,
		Dice: newDice(seed),
		On: func(tested, model *store.Tx) {
			g.k = [2]*dir.Dirs{on(tested), on(tested)}
			g.m = plain{file.On(span.On(node.On(pool.On(model))))}
		},
		Refused: func(want api.Errno) { asks(t, g.k[0], want) },
	}
	return g
}

// both does the same at the files of the two.
func (g *game) both(what string, do func(f *file.Files) api.Errno) {
	g.t.Helper()
	is(g.t, what, do(g.k[0].Files), do(g.m.Files))
}

// start begins with stores of that form, which hold three directories, a file and a link.
func (g *game) start(form api.Super) {
	g.t.Helper()
	g.Start(form)
	g.both("Clear", func(f *file.Files) api.Errno { return f.Clear() })
	for _, kind := range []int{api.KDir, api.KDir, api.KDir, api.KFile, api.KLink} {
		g.both("Make", func(f *file.Files) api.Errno { _, e := f.Make(kind, []int{0, 0, 1, 0}[kind]); return e })
	}
	g.both("WriteAt", func(f *file.Files) api.Errno { return f.WriteAt(4, 0, []byte("a file")) })
	g.Commit()
	g.Sync()
}

// number draws a node's number: most are those of directories, some of other nodes or of none.
func (g *game) number() int {
	d := g.Dice
	return trial.One(d, 1, 1, 1, 1, 2, 2, 2, 3, 3, 1+d.Below(3), 1+d.Below(3), 1+d.Below(3), 1+d.Below(3), 1+d.Below(3), 1+d.Below(g.m.Layout().Nodes), d.Below(15)-1)
}

// name draws one of some dozens, or one that may not be.
func (g *game) name() string {
	d := g.Dice
	if d.Below(25) == 0 {
		return trial.One(d, badNames...).name
	}
	return trial.One(d, "", "a", "\xff", strings.Repeat("n", 53)) + string(rune('a'+d.Below(10)))
}

// named and kind draw what an entry may say, or may not.
func (g *game) named() int {
	if g.Dice.Below(25) == 0 {
		return trial.One(g.Dice, 0, -1, g.m.Layout().Nodes+1)
	}
	return 1 + g.Dice.Below(g.m.Layout().Nodes)
}

func (g *game) kind() int {
	if g.Dice.Below(25) == 0 {
		return trial.One(g.Dice, 0, -1, 4)
	}
	return 1 + g.Dice.Below(3)
}

// call plays one drawn call of the face.
func (g *game) call() string {
	g.t.Helper()
	k, d := g.k[g.Dice.Below(2)], g.Dice
	number, name, named, kind := g.number(), g.name(), g.named(), g.kind()
	switch what := d.Below(20); {
	case what < 8:
		g.Same("Add", k.Add(number, name, named, kind), g.m.add(number, name, named, kind))
		return "Add"
	case what < 13:
		g.Same("Del", k.Del(number, name), g.m.del(number, name))
		return "Del"
	case what < 15:
		g.Same("Swap", k.Swap(number, name, named, kind), g.m.swap(number, name, named, kind))
		return "Swap"
	case what < 18:
		got, e := k.Look(number, name)
		want, wantE := g.m.look(number, name)
		g.Same("Look", e, wantE)
		if got != want {
			g.t.Fatalf("Look(%d, %q): %+v, want %+v", number, name, got, want)
		}
		return "Look"
	default:
		got, e := k.List(number)
		want, wantE := g.m.list(number)
		g.Same("List", e, wantE)
		if !slices.Equal(got, want) {
			g.t.Fatalf("List(%d): %+v, want %+v", number, got, want)
		}
		return "List"
	}
}

// holes makes longer what is a directory, or makes a hole in it, as a file's: it is one still.
func (g *game) holes() string {
	g.t.Helper()
	number, blocks := 1+g.Dice.Below(3), g.Dice.Below(5)
	n, e := g.m.Load(number)
	if e == api.OK && g.Dice.Below(2) == 0 {
		g.both("Resize", func(f *file.Files) api.Errno { return f.Resize(number, n.Size+512*blocks) })
		return "Resize"
	}
	g.both("Wipe", func(f *file.Files) api.Errno { return f.Wipe(number, 512*blocks, 512) })
	return "Wipe"
}

// mess breaks a directory, lets some calls be refused, and takes it all back.
func (g *game) mess() string {
	g.t.Helper()
	d := g.Dice
	number := 1 + d.Below(3)
	n, _ := g.m.Load(number)
	place := d.Below(n.Size + 1)
	switch d.Below(3) {
	case 0:
		size := trial.One(d, place, n.Size+1+d.Below(511), n.Size+64)
		g.both("Resize", func(f *file.Files) api.Errno { return f.Resize(number, size) })
	case 1:
		off, data := place/512*512+d.Below(512), []byte{byte(d.Below(256))}
		g.both("WriteAt", func(f *file.Files) api.Errno { return f.WriteAt(number, off, data) })
	default: // some entry once more, or another one
		data, _ := codec.EncodeEntry(api.Entry{Node: 1 + d.Below(9), Kind: 1, Name: string(rune('a' + d.Below(10)))})
		g.both("WriteAt", func(f *file.Files) api.Errno { return f.WriteAt(number, place/64*64, data) })
	}
	for range 4 {
		g.call()
	}
	g.Abort()
	return "Abort"
}

func (g *game) step() string {
	g.t.Helper()
	if what := g.End(); what != "" {
		return what
	}
	switch what := g.Dice.Below(40); {
	case what < 1:
		return g.holes()
	case what < 2:
		return g.mess()
	case what < 4:
		g.PutFree(trial.One(g.Dice, 1, 5, 14, 20))
		return "Put"
	default:
		return g.call()
	}
}

// P1001 to P1008: all answers, and all blocks behind every call, are the model's.
func TestP1008Drawn(t *testing.T) {
	t.Parallel()
	forms := []api.Super{
		small,
		{Sectors: 30, Log: 18, Nodes: 8},
		{Sectors: 100, Log: 40, Nodes: 12},
		{Sectors: 34, Log: 20, Nodes: 8},
	}
	g := newGame(t, 1001)
	for round := range 24 {
		g.start(forms[round%len(forms)])
		for range 600 {
			g.Alike(g.step(), g.m.Layout().Blocks)
		}
	}
	g.Answered(api.OK, api.ErrRange, api.ErrLong, api.ErrName, api.ErrArg, api.ErrNode, api.ErrNotDir, api.ErrCorrupt, api.ErrNotFound, api.ErrExists, api.ErrNoSpace, api.ErrBudget)
}
