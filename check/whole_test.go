package check_test

import (
	"maps"
	"slices"
	"strconv"
	"testing"

	"vellum/api"
	"vellum/check"
	"vellum/dir"
	"vellum/disk"
	"vellum/file"
	"vellum/halt"
	nodes "vellum/node"
	"vellum/pool"
	spans "vellum/span"
	"vellum/store"
	"vellum/trial"
	"vellum/walk"
)

func on(tx *store.Tx) *walk.Walk {
	return walk.On(dir.On(file.On(spans.On(nodes.On(pool.On(tx))))))
}

// name is one of a node.
type name struct {
	in   int
	text string
	node int
}

// garden is a tree in which calls of the layers below keep links and parents as a tree has them.
type garden struct {
	*walk.Walk
	t     *testing.T
	dice  *trial.Dice
	d     *disk.Disk
	s     *store.Store
	names []name
	kinds map[int]int // by node
}

func planted(t *testing.T, dice *trial.Dice, form api.Super) *garden {
	t.Helper()
	d, s, w := trial.Fresh(t, form, 0, on)
	_, e := w.Make(api.KDir, 1)
	is(t, "Make", e, api.OK)
	return &garden{Walk: trial.Next(t, s, w, on), t: t, dice: dice, d: d, s: s, kinds: map[int]int{1: api.KDir}}
}

// report is what should be told.
func (g *garden) report() api.Report {
	g.t.Helper()
	var r api.Report
	for k, kind := range g.kinds {
		named := slices.ContainsFunc(g.names, func(x name) bool { return x.node == k })
		switch {
		case kind == api.KDir:
			r.Dirs++
		case kind == api.KLink:
			r.Links++
		case named:
			r.Files++
		default:
			r.Orphans++
		}
	}
	blocks, _, e := g.Left()
	is(g.t, "Left", e, api.OK)
	r.Used = g.Layout().Blocks - g.Layout().Data - blocks
	return r
}

func (g *garden) whole(what string) {
	g.t.Helper()
	got, e := check.Run(g.Tx, 1+g.dice.Below(8))
	is(g.t, "Run", e, api.OK)
	if want := g.report(); !same(got, want) {
		g.t.Fatalf("P1203: behind %s: %+v, want %+v", what, got, want)
	}
}

// links lets a node have so many more.
func (g *garden) links(k, more int) {
	n := halt.Got(g.Load(k))
	n.Links += more
	halt.If(n.Links > api.MaxLinks, api.ErrLinks)
	halt.On(g.Save(k, n))
}

// one draws a node of that kind; 0, if there is none.
func (g *garden) one(kind int) int {
	var list []int
	for k := range g.Layout().Nodes + 1 {
		if g.kinds[k] == kind {
			list = append(list, k)
		}
	}
	if list == nil {
		return 0
	}
	return trial.One(g.dice, list...)
}

// fresh draws a directory, and a name that it has not.
func (g *garden) fresh() name {
	x := name{in: g.one(api.KDir), text: strconv.Itoa(g.dice.Below(30))}
	for slices.ContainsFunc(g.names, func(y name) bool { return x.in == y.in && x.text == y.text }) {
		x.text += "x"
	}
	return x
}

// make makes a node with a name.
func (g *garden) make(kind int) {
	x := g.fresh()
	parent := 0
	if kind == api.KDir {
		parent = x.in
		g.links(x.in, 1)
	}
	x.node = halt.Got(g.Make(kind, parent))
	if kind != api.KDir {
		g.links(x.node, 1)
	}
	halt.On(g.Add(x.in, x.text, x.node, kind))
	if kind == api.KLink {
		halt.On(g.WriteAt(x.node, 0, slices.Repeat([]byte{'t'}, 1+g.dice.Below(255))))
	}
	g.names = append(g.names, x)
	g.kinds[x.node] = kind
}

// link lets a file have one more name.
func (g *garden) link() {
	x := g.fresh()
	if x.node = g.one(api.KFile); x.node == 0 {
		return
	}
	g.links(x.node, 1)
	halt.On(g.Add(x.in, x.text, x.node, api.KFile))
	g.names = append(g.names, x)
}

// free lets a node go, with its blocks.
func (g *garden) free(k int) {
	halt.On(g.Cut(k, 0))
	halt.On(g.Free(k))
	delete(g.kinds, k)
}

// unname takes out a name, and with it a link or an empty directory; a file may live on without a name.
func (g *garden) unname() {
	if len(g.names) == 0 {
		return
	}
	at := g.dice.Below(len(g.names))
	x := g.names[at]
	kind := g.kinds[x.node]
	if kind == api.KDir && slices.ContainsFunc(g.names, func(y name) bool { return y.in == x.node }) {
		return
	}
	halt.On(g.Del(x.in, x.text))
	g.names = slices.Delete(g.names, at, at+1)
	if kind == api.KDir {
		g.links(x.in, -1)
	} else {
		g.links(x.node, -1)
	}
	lives := slices.ContainsFunc(g.names, func(y name) bool { return y.node == x.node })
	if kind != api.KFile || !lives && g.dice.Below(2) == 0 {
		g.free(x.node)
	}
}

// move lets a node have another name in stead of one.
func (g *garden) move() {
	if len(g.names) == 0 {
		return
	}
	at, to := g.dice.Below(len(g.names)), g.fresh()
	x := g.names[at]
	kind := g.kinds[x.node]
	if kind == api.KDir {
		if halt.Got(g.Inside(to.in, x.node)) {
			return
		}
		g.links(x.in, -1)
		g.links(to.in, 1)
		n := halt.Got(g.Load(x.node))
		n.Parent = to.in
		halt.On(g.Save(x.node, n))
	}
	halt.On(g.Del(x.in, x.text))
	halt.On(g.Add(to.in, to.text, x.node, kind))
	to.node = x.node
	g.names[at] = to
}

// orphaned frees a file that has no name.
func (g *garden) orphaned() {
	for k := range g.Layout().Nodes + 1 {
		if g.kinds[k] == api.KFile && !slices.ContainsFunc(g.names, func(y name) bool { return y.node == k }) {
			g.free(k)
			return
		}
	}
}

// bytes writes, cuts, or makes holes.
func (g *garden) bytes() {
	d, k := g.dice, g.one(api.KFile)
	if k == 0 {
		return
	}
	off := trial.One(d, 0, 100, 512*9+200, 512*10, 512*137+500, 512*138, 512*266, d.Below(200000), api.MaxFile-4096)
	length := min(1+d.Below(3000), 4096-off%4096)
	switch d.Below(4) {
	case 0, 1:
		halt.On(g.WriteAt(k, off, slices.Repeat([]byte{byte(d.Below(256))}, length)))
	case 2:
		halt.On(g.Resize(k, trial.One(d, 0, off, off+length)))
	default:
		n := halt.Got(g.Load(k))
		from := d.Below(n.Size + 1)
		halt.On(g.Wipe(k, from, from+d.Below(n.Size-from+1)))
	}
}

// step does one in the transaction; its want of room is told.
func (g *garden) step(which int) (e api.Errno) {
	defer func() { e = halt.Caught(recover(), g.Spoil) }()
	switch which {
	case 0, 1:
		g.make(api.KFile)
	case 2, 3:
		g.make(api.KDir)
	case 4:
		g.make(api.KLink)
	case 5:
		g.link()
	case 6, 7:
		g.unname()
	case 8:
		g.move()
	case 9:
		g.orphaned()
	default:
		g.bytes()
	}
	return api.OK
}

// again is the garden as it is now, over another transaction.
func (g *garden) again(w *walk.Walk) *garden {
	dice := *g.dice
	return &garden{Walk: w, t: g.t, dice: &dice, d: g.d, s: g.s, names: slices.Clone(g.names), kinds: maps.Clone(g.kinds)}
}

// play does a step, and asks that nothing is wrong in the midst of its transaction and behind it, or behind its Abort.
func (g *garden) play() api.Errno {
	g.t.Helper()
	was := g.again(nil)
	which := g.dice.Below(14)
	e := g.step(which)
	if e == api.OK && g.dice.Below(10) > 0 {
		g.whole("step " + strconv.Itoa(which))
		g.Walk = trial.Next(g.t, g.s, g.Walk, on)
	} else {
		is(g.t, "Abort", g.Abort(), api.OK)
		g.Walk = on(trial.Begun(g.t, g.s))
		g.names, g.kinds = was.names, was.kinds
	}
	g.whole("the end of step " + strconv.Itoa(which))
	return e
}

func TestP1203Drawn(t *testing.T) {
	t.Parallel()
	dice := trial.NewDice(1203)
	answers := map[api.Errno]int{}
	for range 12 {
		g := planted(t, dice, trial.One(dice, small, wide, cramped))
		for range 250 {
			e := g.play()
			if e != api.OK && e != api.ErrNoSpace && e != api.ErrNoNodes && e != api.ErrBudget {
				t.Fatalf("a step answers %v", e)
			}
			answers[e]++
		}
		is(t, "Checkpoint", g.s.Checkpoint(), api.OK)
		g.whole("Checkpoint")
	}
	for _, e := range []api.Errno{api.OK, api.ErrNoSpace, api.ErrNoNodes} {
		if answers[e] < 50 {
			t.Errorf("the draw is thin: %v was answered %d times", e, answers[e])
		}
	}
}

// row is a row of drawn steps, as they go on from the garden, which does them all.
func (g *garden) row(steps int) []trial.Step[*walk.Walk] {
	g.t.Helper()
	var list []trial.Step[*walk.Walk]
	for len(list) < steps {
		which := g.dice.Below(14)
		was := g.again(nil)
		if g.step(which) != api.OK {
			is(g.t, "Abort", g.Abort(), api.OK)
			g.Walk = on(trial.Begun(g.t, g.s))
			g.names, g.kinds = was.names, was.kinds
			continue
		}
		g.Walk = trial.Next(g.t, g.s, g.Walk, on)
		list = append(list, trial.Step[*walk.Walk]{
			Change: func(w *walk.Walk) { is(g.t, "a step", was.again(w).step(which), api.OK) },
			Sync:   len(list)%5 == 3,
		})
	}
	return list
}

// The power is cut at every call of a row of steps: what is there then is whole, and no tree but one that was.
func TestP1203Cuts(t *testing.T) {
	t.Parallel()
	g := planted(t, trial.NewDice(1206), small)
	for range 20 {
		g.play()
	}
	is(t, "Checkpoint", g.s.Checkpoint(), api.OK)
	type counts struct{ files, dirs, links, orphans, used int }
	cuts := &trial.Cuts[*walk.Walk, counts]{
		T:     t,
		Image: g.d.Image(),
		On:    on,
		Tell: func(w *walk.Walk) counts {
			r, e := check.Run(w.Tx, 2)
			is(t, "Run", e, api.OK)
			if r.Phase != 0 {
				t.Fatalf("P1203: with a cut: %+v", r)
			}
			return counts{r.Files, r.Dirs, r.Links, r.Orphans, r.Used}
		},
		Dead: func(w *walk.Walk) { refused(t, "a dead one", w.Tx, []int{1, 8, 9}, api.ErrDead) },
	}
	cuts.Steps = g.row(14)
	if tried := cuts.Every(); tried < 500 {
		t.Errorf("only %d cuts", tried)
	}
	cuts.Within()
}
