package patch_test

import (
	"bytes"
	"fmt"
	"slices"
	"testing"

	"vellum/api"
	"vellum/dump"
	"vellum/patch"
	"vellum/site"
	"vellum/trial"
)

// archived is the archive of a file system.
func archived(g *site.Ground) string {
	g.T.Helper()
	b, e := dump.Save(g.F)
	trial.Is(g.T, "Save", e, api.OK)
	return string(b)
}

// stepsOf are operations of one step each: a Write is cut where its offset is a multiple of 4096.
func stepsOf(ops []api.Op) []api.Op {
	var steps []api.Op
	for _, op := range ops {
		for op.Kind == api.OpWrite && op.Off/4096 != (op.Off+len(op.Data)-1)/4096 {
			first := op
			first.Data = op.Data[:4096-op.Off%4096]
			steps = append(steps, first)
			op.Off, op.Data = op.Off+len(first.Data), op.Data[len(first.Data):]
		}
		steps = append(steps, op)
	}
	return steps
}

// cutTrees are two trees between which every kind of operation is done.
func cutTrees() ([]api.Item, []api.Item) {
	old := items(fileItem("/a", 700, 512, run(1, 2)), dirItem("/d"), fileItem("/d/x", 9000, 512*6, run(0, 6)), linkItem("/d/y", "x"), fileItem("/f", 512*12, 512*12, run(0, 12)), nameItem("/g", "/f"))
	f := fileItem("/f", 512*20, 512*15, run(0, 3), run(5, 8), run(9, 18))
	f.Data[0], f.Data[512*4] = 2, 2
	goal := items(dirItem("/a"), linkItem("/a/l", "t"), fileItem("/d", 512*17, 512*12, run(5, 17)), f, nameItem("/g", "/f"), nameItem("/h", "/f"))
	return old, goal
}

// The power goes at each write of an Onto: it answers ErrDead, and how many operations were done; the next Mount shows the tree behind some number of its steps, no fewer than were synced.
func TestP1812Cut(t *testing.T) {
	t.Parallel()
	old, goal := cutTrees()
	g := planted(t, api.Super{Sectors: 120, Log: 18, Nodes: 12}, old)
	b := bytesOf(diffOf(old, goal))
	trees := []string{archived(g)}
	dry := g.Copied()
	was := dry.D.Counts()
	for _, op := range stepsOf(operationsOf(old, diffOf(old, goal).Changes)) {
		dry.All(op)
		trees = append(trees, archived(dry))
	}
	now := dry.D.Counts()
	total := now.Writes + now.Flushes - was.Writes - was.Flushes
	if total < 40 || trees[len(trees)-1] != string(must(dump.Pack(goal))) {
		t.Fatalf("%d writes are few, or another tree came of it", total)
	}
	shown := map[string]int{}
	last := 0
	for fuse := range total + 1 {
		n, e := asTwin(g, fmt.Sprintf("burnt behind %d of %d", fuse, total), b, fuse)
		if n < last || (e == api.ErrDead) != (fuse < total) || fuse == 0 && n != 0 {
			t.Errorf("P1807: burnt behind %d of %d: %d, %v", fuse, total, n, e)
		}
		last = n
		for _, picks := range trial.Picks() {
			c := g.Copied()
			c.D.Fuse(fuse)
			patch.Onto(c.F, b)
			c.D.Crash(picks)
			c = site.OnDisk(t, c.D)
			tree := archived(c)
			if !slices.Contains(trees, tree) {
				t.Fatalf("P1812: burnt behind %d of %d, cut with %v: the tree is none of the %d that may be", fuse, total, picks, len(trees))
			}
			shown[tree]++
			c.Whole()
		}
	}
	if len(shown) < len(trees)-2 {
		t.Errorf("%d of %d trees were seen", len(shown), len(trees))
	}
}

// What was synced ahead of an Onto stays; and what a Mount has shown behind a cut can be gone on from: the patch from that tree to the goal is done as any other.
func TestP1812GoOn(t *testing.T) {
	t.Parallel()
	old, goal := cutTrees()
	start := planted(t, api.Super{Sectors: 120, Log: 60, Nodes: 12}, nil)
	b := bytesOf(diffOf(old, goal))
	for fuse := 0; fuse < 60; fuse += 3 {
		g := start.Copied()
		for _, x := range old {
			trial.Is(t, "Put", site.Put(g.F, x), api.OK)
		}
		g.Synced()
		g.D.Fuse(fuse)
		patch.Onto(g.F, b)
		g.D.Crash(nil)
		g = site.OnDisk(t, g.D)
		tree := saved(g)
		if fuse == 0 && !site.Same(tree, old) {
			t.Fatalf("P1812: what was synced is lost: %s", site.Short(tree))
		}
		becomes(g, "on", tree, goal, bytesOf(diffOf(tree, goal)))
	}
}

func must(b []byte, e api.Errno) []byte {
	if e != api.OK {
		panic(e)
	}
	return b
}

// Drawn patches on file systems that have grown by drawn operations, with room and without, and with fuses.
func TestP1811Drawn(t *testing.T) {
	t.Parallel()
	d := newGardener(1811)
	p := site.Planter{Dice: d.Dice}
	answers := map[api.Errno]int{}
	whole := 0
	for _, form := range []api.Super{{Sectors: 28, Log: 18, Nodes: 8}, {Sectors: 200, Log: 18, Nodes: 4}, {Sectors: 64, Log: 18, Nodes: 16}, {Sectors: 120, Log: 40, Nodes: 40}, {Sectors: 600, Log: 60, Nodes: 60}} {
		for range 100 {
			g := site.Fresh(t, form)
			for range d.Below(60) {
				g.F.Do(p.Op())
			}
			g.Synced()
			old := saved(g)
			goal := d.other(old, d.Below(16))
			if d.Below(6) == 0 {
				goal = d.tree()
			}
			b := bytesOf(diffOf(old, goal))
			if d.Below(8) == 0 {
				b = site.Resummed(site.Edited(d.Dice, b))
			}
			fuse := -1
			if d.Below(4) == 0 {
				fuse = d.Below(40)
			}
			_, e := asTwin(g, "drawn", b, fuse)
			answers[e]++
			switch {
			case e == api.OK:
				becomes(g, "drawn", old, goal, b)
				whole++
			case e == api.ErrPatch || e == api.ErrBase:
				g.Unchanged("a patch that is refused", func() { patch.Onto(g.F, b) })
			}
		}
	}
	for _, e := range []api.Errno{api.OK, api.ErrPatch, api.ErrNoSpace, api.ErrNoNodes, api.ErrDead} {
		if answers[e] < 10 {
			t.Errorf("the draw is thin: %v", answers)
		}
	}
	if whole < 150 {
		t.Errorf("the draw is thin: %v", answers)
	}
}

// Any bytes below a file system that is mounted: Onto ends, whatever becomes of it.
func TestP9Onto(t *testing.T) {
	t.Parallel()
	d := newGardener(1809)
	p := site.Planter{Dice: d.Dice}
	answers := map[api.Errno]int{}
	for range 200 {
		g := site.Fresh(t, api.Super{Sectors: 64, Log: 18, Nodes: 16})
		for range 60 {
			g.F.Do(p.Op())
		}
		trial.Is(t, "Checkpoint", g.F.Checkpoint(), api.OK)
		image := g.D.Image()
		for range 1 + d.Below(3) {
			block := 2 + d.Below(38)
			data := bytes.Clone(image[512*(21+d.Below(43)):][:512])
			if d.Below(3) == 0 {
				data = bytes.Clone(image[512*(21+block):][:512])
				data[d.Below(512)]++
			}
			trial.Is(t, "Write", g.D.Write(21+block, data), api.OK)
		}
		b := bytesOf(of(drop("/a")))
		if archive, e := dump.Save(g.F); e == api.OK {
			old, _ := dump.List(archive)
			b = bytesOf(diffOf(old, d.other(old, 5)))
		}
		n, e := patch.Onto(g.F, b)
		answers[e]++
		if n < 0 || e == api.ErrDead {
			t.Fatalf("P9: Onto over junk: %d, %v", n, e)
		}
	}
	if answers[api.OK] < 20 || answers[api.ErrCorrupt] < 10 {
		t.Errorf("the draw is thin: %v", answers)
	}
}
