package dump_test

import (
	"bytes"
	"math"
	"testing"

	"vellum/api"
	"vellum/site"
	"vellum/trial"
)

// grown does drawn operations; it is no matter which of them are refused.
func (g *ground) grown(d site.Planter, ops int) *ground {
	for range ops {
		g.F.Do(d.Op())
	}
	return g
}

// roomy is a form with as much room as another one, and more by so much.
func roomy(form api.Super, log, nodes, blocks int) api.Super {
	data := form.Sectors - 3 - form.Log - 2 - form.Nodes/4
	return api.Super{Sectors: 3 + log + 2 + (form.Nodes+nodes)/4 + data + blocks, Log: log, Nodes: form.Nodes + nodes}
}

// restored asks that the archive of a file system, loaded into a new one, makes the same tree, with no block more; it tells how many.
func (g *ground) restored(form api.Super, items []api.Item, archive []byte, used int) int {
	g.T.Helper()
	r := fresh(g.T, form)
	r.loads(archive, len(items), api.OK)
	if again := r.saves(items); !bytes.Equal(again, archive) {
		g.T.Fatalf("P1505: %+v: another archive", form)
	}
	r.asTold()
	report := r.Whole()
	if report.Used > used {
		g.T.Fatalf("P1505: %+v: %d blocks are in use, and were %d", form, report.Used, used)
	}
	return report.Used
}

// Drawn trees are saved as they are, and restored: into a file system of the same form, and into roomier ones.
func TestP1505Drawn(t *testing.T) {
	t.Parallel()
	full, items, fewer := 0, 0, 0
	for seed, form := range []api.Super{{Sectors: 30, Log: 18, Nodes: 8}, {Sectors: 64, Log: 18, Nodes: 16}, {Sectors: 120, Log: 40, Nodes: 40}, {Sectors: 400, Log: 18, Nodes: 60}} {
		d := site.Planter{Dice: trial.NewDice(1505 + seed)}
		for range 12 {
			g := fresh(t, form)
			for range 6 {
				g.grown(d, 30)
				list := g.told()
				var archive []byte
				g.Unchanged("Save", func() { archive = g.saves(list) })
				if free, _, _ := g.F.Space(); free == 0 {
					full++
				}
				used := g.Whole().Used
				items += len(list)
				if g.restored(form, list, archive, used) < used {
					fewer++
				}
				g.restored(roomy(form, 18, 0, 0), list, archive, used)
				g.restored(roomy(form, 18+d.Below(40), 4*d.Below(5), d.Below(20)), list, archive, used)
				if d.Below(4) == 0 {
					g.F.Sync()
					g.D.Crash(nil)
					g = onDisk(t, g.D)
					g.saves(list)
				}
			}
		}
	}
	if full < 20 || items < 1500 || fewer < 1 {
		t.Errorf("the draw is thin: %d full disks, %d items, %d times fewer blocks", full, items, fewer)
	}
}

// A directory that has lost most of its names keeps its blocks; that of what is restored has those alone that it needs. Other nodes may be taken, in another order.
func TestP1505Slots(t *testing.T) {
	form := api.Super{Sectors: 60, Log: 18, Nodes: 40}
	g := fresh(t, form)
	for i := range 26 {
		g.All(site.Create("/" + string(rune('z'-i))))
	}
	for i := range 22 {
		g.All(site.Unlink("/" + string(rune('z'-i))))
	}
	g.All(site.Write("/a", 0, "last of all"))
	if used := g.Whole().Used; used != 5 {
		t.Fatalf("%d blocks are in use", used)
	}
	if used := g.restored(form, g.told(), g.asTold(), 5); used != 2 {
		t.Errorf("P1505: %d blocks are in use, want 2", used)
	}
}

// Drawn right lists that fit are put in and told again, item for item.
func TestP1505Lists(t *testing.T) {
	t.Parallel()
	d := site.Lister{Dice: trial.NewDice(15051)}
	for range 150 {
		items := d.Items()
		if broken(items) != 0 {
			continue
		}
		g := fresh(t, api.Super{Sectors: 500, Log: 60, Nodes: 20})
		g.loads(bytesOf(items), len(items), api.OK)
		g.saves(items)
		g.Whole()
	}
}

// Any list of bytes, as an archive, at any file system: it is refused and nothing is changed, or it is put in as far as it goes; and all is whole.
func TestP1507Drawn(t *testing.T) {
	t.Parallel()
	d := site.Lister{Dice: trial.NewDice(1507)}
	p := site.Planter{Dice: d.Dice}
	answers := map[api.Errno]int{}
	for _, form := range []api.Super{{Sectors: 28, Log: 18, Nodes: 4}, {Sectors: 33, Log: 18, Nodes: 16}, {Sectors: 64, Log: 18, Nodes: 16}, {Sectors: 200, Log: 60, Nodes: 24}} {
		for range 100 {
			g := fresh(t, form).grown(p, d.Below(30)).synced()
			items := d.Items()
			for range d.Below(2) {
				items = d.Spoil(items)
			}
			archive := bytesOf(items)
			if d.Below(6) == 0 {
				archive = resummed(edited(d.Dice, archive))
			}
			fuse := -1
			if d.Below(3) == 0 {
				fuse = d.Below(30)
			}
			n, e := g.asTwin("a drawn one", archive, fuse)
			answers[e]++
			if _, is := itemsOf(archive); !is && (n != 0 || e != api.ErrArchive && fuse != 0) {
				t.Errorf("P1507: no archive: %d, %v", n, e)
			}
			if e == api.ErrArchive {
				g.Unchanged("Load of no archive", func() { g.loads(archive, 0, api.ErrArchive) })
			}
		}
	}
	for _, e := range []api.Errno{api.OK, api.ErrArchive, api.ErrExists, api.ErrNoSpace, api.ErrNoNodes, api.ErrDead} {
		if answers[e] < 10 {
			t.Errorf("the draw is thin: %v was answered %d times", e, answers[e])
		}
	}
}

// Numbers that no file has, in items: nothing panics, nothing is waited for.
func TestP1Numbers(t *testing.T) {
	odd := []int{math.MinInt, math.MinInt + 1, -513, -512, -1, 0, 1, 2, 511, 512, 513, 16521, 16522, 16523, api.MaxFile - 1, api.MaxFile, api.MaxFile + 1, 1 << 31, 1 << 32, 1<<32 + 1, 1 << 54, 1 << 55, math.MaxInt - 511, math.MaxInt - 1, math.MaxInt}
	for _, size := range odd {
		for _, from := range odd {
			for _, to := range odd {
				for _, data := range []int{0, 512} {
					item := api.Item{Kind: api.KFile, Path: "/f", Size: size, Runs: []api.Run{{From: from, To: to}}, Data: make([]byte, data)}
					last := item
					last.Runs = []api.Run{{From: 0, To: 1}, {From: from, To: to}}
					packs(t, "odd numbers", []api.Item{item})
					packs(t, "odd numbers", []api.Item{last})
				}
			}
		}
	}
}
