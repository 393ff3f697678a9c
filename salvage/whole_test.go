package salvage_test

import (
	"slices"
	"testing"

	"vellum/api"
	"vellum/dump"
	"vellum/site"
	"vellum/trial"
)

// whole asks, of an image that mounts and can be saved, that Items tells what Save does; it says whether it was such a one.
func whole(t *testing.T, what string, image []byte, form api.Super) bool {
	t.Helper()
	_, f, taken := mounted(t, slices.Clone(image))
	if !taken {
		return false
	}
	archive, e := dump.Save(f)
	if e != api.OK {
		return false
	}
	want, e := dump.List(archive)
	is(t, "List", e, api.OK)
	for _, s := range []api.Super{{}, form} {
		if items, losses := asWords(t, what, image, s); !site.Same(items, want) || len(losses) > 0 {
			t.Fatalf("P1705: %s: Items by %v: %.2000s, losses %v, want %.2000s", what, s, site.Short(items), losses, site.Short(want))
		}
	}
	return true
}

// Trees that come of no operations, with their blocks, nodes and slots in any order.
func TestP1705Built(t *testing.T) {
	t.Parallel()
	d := trial.NewDice(1705)
	for range 400 {
		p, _ := trial.Built(t, d, trial.One(d, small, wide, api.Super{Sectors: 300, Log: 40, Nodes: 100}))
		if !whole(t, "built", imaged(p), p.Form) {
			t.Fatalf("P1705: a built image does not mount, or is not saved")
		}
	}
}

// Trees that grow and wither by operations, with held files, syncs, checkpoints and cuts: what is durable is told as the next mount would.
func TestP1705Grown(t *testing.T) {
	t.Parallel()
	dice := trial.NewDice(17051)
	planter := site.Planter{Dice: dice}
	records := 0
	for _, form := range []api.Super{{Sectors: 40, Log: 18, Nodes: 12}, {Sectors: 64, Log: 18, Nodes: 16}, {Sectors: 400, Log: 120, Nodes: 60}} {
		for range 12 {
			d := site.Made(t, form)
			f := site.Mounted(t, d)
			for range 12 {
				for range dice.Below(25) {
					op := planter.Op()
					f.Do(op)
					if dice.Below(6) == 0 {
						f.Hold(op.Path) // an orphan may come of it
					}
				}
				switch dice.Below(4) {
				case 0:
					is(t, "Checkpoint", f.Checkpoint(), api.OK)
				case 1:
					is(t, "Sync", f.Sync(), api.OK)
				case 2:
					d.Crash(trial.One(dice, trial.Picks()...))
					image := d.Image()
					if !whole(t, "cut", image, form) {
						t.Fatalf("P1705: what a cut leaves does not mount, or is not saved")
					}
					f = site.Mounted(t, d)
				}
				image := d.Image()
				if !whole(t, "grown", image, form) {
					t.Fatalf("P1705: a grown image does not mount, or is not saved")
				}
				fill(image, 1, 0)
				fill(image, 2, 0)
				a, _ := asWords(t, "without its log", image, form)
				if b, _ := asWords(t, "with its log", d.Image(), form); !site.Same(a, b) {
					records++
				}
			}
		}
	}
	if records < 50 {
		t.Errorf("the draw is thin: %d times the log held what the homes did not", records)
	}
}

// Damaged images that are still mounted: what the damage did is told as a mount would tell it.
func TestP1705Damaged(t *testing.T) {
	t.Parallel()
	d := trial.NewDice(17052)
	taken := 0
	for range 800 {
		p, _ := trial.Built(t, d, trial.One(d, small, wide))
		v := vandal{p, d}
		switch d.Below(3) {
		case 0:
			v.Held[v.block()][d.Below(512)]++
		case 1:
			v.entries()
		}
		image := imaged(p)
		if d.Below(2) == 0 {
			scratch(d, image, p.Home)
		}
		if whole(t, "damaged", image, p.Form) {
			taken++
		}
	}
	if taken < 150 {
		t.Errorf("the draw is thin: %d images were mounted", taken)
	}
}
