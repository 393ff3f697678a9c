package check_test

import (
	"testing"

	"vellum/api"
	"vellum/check"
	"vellum/store"
	"vellum/trial"
	"vellum/walk"
)

// sound is an image of which no fault is told, and what its blocks say.
type sound struct {
	*plain
	dice *trial.Dice
	s    *store.Store
	w    *walk.Walk
}

// each does something in a transaction of its own, of which nothing stays.
func (i *sound) each(do func()) {
	i.t.Helper()
	i.w = on(trial.Begun(i.t, i.s))
	do()
	is(i.t, "Abort", i.w.Abort(), api.OK)
}

// drained takes all that a bitmap leaves free: it must be nobody's.
func drained[V any](i *sound, take func() (int, api.Errno), none api.Errno, held map[int]V) {
	i.t.Helper()
	for {
		number, e := take()
		if e != api.OK {
			is(i.t, "a take too many", e, none)
			return
		}
		if v, there := held[number]; there {
			i.t.Fatalf("P1204: %d is free, and there is %+v", number, v)
		}
	}
}

// names asks that the names in a directory can be followed, and that the root is reached from it.
func (i *sound) names(k int) {
	i.t.Helper()
	inside, e := i.w.Inside(k, 1)
	is(i.t, "Inside", e, api.OK)
	if !inside {
		i.t.Fatalf("P1204: the root is not reached from %d", k)
	}
	path, e := i.w.Path(k)
	is(i.t, "Path", e, api.OK)
	if k == 1 {
		path = ""
	}
	entries, e := i.w.List(k)
	is(i.t, "List", e, api.OK)
	i.entries[k] = entries
	for _, x := range entries {
		n, e := i.w.Load(x.Node)
		is(i.t, "Load", e, api.OK)
		if n.Kind != x.Kind {
			i.t.Fatalf("P1204: %+v leads to %+v", x, n)
		}
		long := path + "/" + x.Name
		if len(long) > api.MaxPath {
			continue
		}
		got, e := i.w.Resolve(long, false)
		if want := (api.Place{Parent: k, Name: x.Name, Node: x.Node, Kind: x.Kind}); e != api.OK || got != want {
			i.t.Fatalf("P1204: Resolve(%q): %+v, %v, want %+v", long, got, e, want)
		}
		if got, e := i.w.Resolve(long, true); e == api.ErrCorrupt {
			i.t.Fatalf("P1204: Resolve(%q): %+v, %v", long, got, e)
		}
	}
}

// call is one of the layers below.
type call struct {
	what string
	do   func() api.Errno
}

// calls are those of the layers below, with drawn arguments.
func (i *sound) calls() []call {
	d, w := i.dice, i.w
	k := trial.One(d, 1+d.Below(i.Nodes), (&vandal{i.plate, d}).some(api.KDir))
	index := trial.One(d, 0, d.Below(12), d.Below(300), d.Below(api.MaxIndex))
	to := index + d.Below(api.MaxIndex-index+1)
	off := 512*index + d.Below(512)
	name := "none"
	for _, x := range i.entries[trial.One(d, k, 1)] {
		name = x.Name
	}
	return []call{
		{"DropBlock", func() api.Errno { return w.DropBlock(i.Data + d.Below(i.Blocks-i.Data)) }},
		{"DropNode", func() api.Errno { return w.DropNode(k) }},
		{"Left", func() api.Errno { _, _, e := w.Left(); return e }},
		{"Clear", func() api.Errno { return w.Clear() }},
		{"Make", func() api.Errno { _, e := w.Make(api.KDir, k); return e }},
		{"Load", func() api.Errno { _, e := w.Load(k); return e }},
		{"Save", func() api.Errno { return w.Save(k, i.nodes[k]) }},
		{"Free", func() api.Errno { return w.Free(k) }},
		{"All", func() api.Errno { _, e := w.All(d.Below(4)); return e }},
		{"Where", func() api.Errno { _, e := w.Where(k, index); return e }},
		{"Grow", func() api.Errno { _, _, e := w.Grow(k, index); return e }},
		{"Punch", func() api.Errno { return w.Punch(k, index, to) }},
		{"Cut", func() api.Errno { return w.Cut(k, index) }},
		{"Runs", func() api.Errno { _, e := w.Runs(k); return e }},
		{"ReadAt", func() api.Errno { _, e := w.ReadAt(k, off, 3000); return e }},
		{"WriteAt", func() api.Errno { return w.WriteAt(k, off, make([]byte, 4096-off%4096)) }},
		{"Resize", func() api.Errno { return w.Resize(k, off) }},
		{"Wipe", func() api.Errno { return w.Wipe(k, off, d.Below(api.MaxFile+1-off)) }},
		{"Look", func() api.Errno { _, e := w.Look(k, name); return e }},
		{"Add", func() api.Errno { return w.Add(k, "new", k, api.KFile) }},
		{"Del", func() api.Errno { return w.Del(k, name) }},
		{"Swap", func() api.Errno { return w.Swap(k, name, k, api.KLink) }},
		{"List", func() api.Errno { _, e := w.List(k); return e }},
		{"Inside", func() api.Errno { _, e := w.Inside(k, trial.One(d, 1, 1+d.Below(i.Nodes))); return e }},
		{"Path", func() api.Errno { _, e := w.Path(k); return e }},
		{"Resolve", func() api.Errno { _, e := w.Resolve("/"+name+trial.One(d, "", "/..", "/x"), true); return e }},
	}
}

// all makes each of the calls in a transaction of its own, and counts those that were let through.
func (i *sound) all(done map[string]int) {
	i.t.Helper()
	i.w = on(trial.Begun(i.t, i.s))
	for which := range i.calls() {
		is(i.t, "Abort", i.w.Abort(), api.OK)
		i.w = on(trial.Begun(i.t, i.s))
		c := i.calls()[which]
		e := c.do()
		if e == api.ErrCorrupt {
			i.t.Fatalf("P1204: %s: %v", c.what, e)
		}
		if e == api.OK {
			done[c.what]++
		}
	}
}

// found is an image, if no fault is told of it.
func found(p *plate, dice *trial.Dice) (*sound, bool) {
	p.t.Helper()
	_, s, tx := p.begun()
	r, e := check.Run(tx, 3)
	is(p.t, "Run", e, api.OK)
	is(p.t, "Abort", tx.Abort(), api.OK)
	i := &sound{plain: (&vandal{p, dice}).look(), dice: dice, s: s}
	if r.Phase > 0 {
		return nil, false
	}
	if len(i.owner) != r.Used || i.faults != nil {
		p.t.Fatalf("P1204: %d blocks are owned, and %d told; %v", len(i.owner), r.Used, i.faults)
	}
	return i, true
}

// Of images without a fault, however they came to be, all can be followed, and no call tells that they are broken.
func TestP1204Drawn(t *testing.T) {
	t.Parallel()
	dice := trial.NewDice(1204)
	done, ravaged := map[string]int{}, 0
	for round := 0; round < 500 || ravaged < 50; round++ {
		p, _ := built(t, dice, trial.One(dice, small, wide))
		if round%5 > 0 {
			(&vandal{p, dice}).ravage(2 + dice.Below(4))
		}
		i, whole := found(p, dice)
		if !whole {
			continue
		}
		if round%5 > 0 {
			ravaged++
		}
		i.each(func() { drained(i, i.w.TakeBlock, api.ErrNoSpace, i.owner) })
		i.each(func() { drained(i, i.w.TakeNode, api.ErrNoNodes, i.nodes) })
		i.entries = map[int][]api.Entry{}
		i.each(func() {
			for k, n := range i.nodes {
				if n.Kind == api.KDir {
					i.names(k)
				}
			}
		})
		i.all(done)
	}
	for what, count := range done {
		if count < 20 {
			t.Errorf("the draw is thin: %s was let through %d times", what, count)
		}
	}
}
