package dir_test

import (
	"slices"
	"strings"
	"testing"

	"vellum/api"
	"vellum/dir"
	"vellum/trial"
)

// place is a name in a directory, and meaning what an entry says.
type (
	place struct {
		dir  int
		name string
	}
	meaning struct{ node, kind int }
)

// keeper changes three directories and a file, and remembers what the names mean.
type keeper struct {
	trial.Memory[*dir.Dirs, place, meaning]
	t *testing.T
}

func newKeeper(t *testing.T, form api.Super, dice *trial.Dice) *keeper {
	t.Helper()
	k := &keeper{t: t}
	k.T, k.Dice, k.On = t, dice, on
	d, s, dirs := fresh(t, form, api.KDir, api.KDir, api.KDir, api.KFile)
	is(t, "Abort", dirs.Abort(), api.OK)
	is(t, "Sync", s.Sync(), api.OK)
	k.Start(d, s)
	return k
}

// names are all that are drawn.
var names = append(numbered(30), "a", "ab", "\xff", strings.Repeat("z", 54), strings.Repeat("z", 53))

// change makes a call at a drawn name: one that the name lets be.
func (k *keeper) change() {
	k.t.Helper()
	d := k.Dice
	at := place{dir: 1 + d.Below(3), name: trial.One(d, names...)}
	says := meaning{node: 1 + d.Below(8), kind: 1 + d.Below(3)}
	if _, there := k.Now[at]; !there {
		dels(k.t, k.View, at.dir, at.name, api.ErrNotFound)
		swaps(k.t, k.View, at.dir, at.name, says.node, says.kind, api.ErrNotFound)
		if k.Let("Add", k.View.Add(at.dir, at.name, says.node, says.kind)) {
			k.Now[at] = says
		}
		return
	}
	adds(k.t, k.View, at.dir, at.name, says.node, says.kind, api.ErrExists)
	if d.Below(3) == 0 {
		if k.Let("Swap", k.View.Swap(at.dir, at.name, says.node, says.kind)) {
			k.Now[at] = says
		}
		return
	}
	if k.Let("Del", k.View.Del(at.dir, at.name)) {
		delete(k.Now, at)
	}
}

// file changes the file between: that is not seen in any directory.
func (k *keeper) file() {
	k.t.Helper()
	if k.Dice.Below(2) == 0 {
		k.Let("Resize", k.View.Resize(4, k.Dice.Below(3000)))
		return
	}
	k.Let("WriteAt", k.View.WriteAt(4, k.Dice.Below(3000), []byte("not an entry")))
}

func (k *keeper) step() {
	k.t.Helper()
	switch what := k.Dice.Below(30); {
	case what < 20:
		k.change()
	case what < 22:
		k.file()
	case what < 27:
		k.Commit()
	case what < 28:
		k.Abort()
	default:
		k.Cut()
	}
}

// look asks for every name in every directory, and that a directory ends with an entry.
func (k *keeper) look() {
	k.t.Helper()
	for number := 1; number <= 3; number++ {
		var want []api.Entry
		for _, name := range names {
			says, there := k.Now[place{number, name}]
			if !there {
				missing(k.t, k.View, number, name)
				continue
			}
			got, e := k.View.Look(number, name)
			if e != api.OK || got != entry(name, says.node, says.kind, got.Slot) {
				k.t.Fatalf("P1009: Look(%d, %q): %+v, %v, want %+v", number, name, got, e, says)
			}
			want = append(want, got)
		}
		slices.SortFunc(want, func(a, b api.Entry) int { return strings.Compare(a.Name, b.Name) })
		lists(k.t, k.View, number, want...)
		blocks := 0
		for _, e := range want {
			blocks = max(blocks, e.Slot/8+1)
		}
		stat(k.t, k.View, number, 512*blocks, blocks)
	}
}

// P1009 behind every call of drawn rows of transactions, aborts and cuts.
func TestP1009Drawn(t *testing.T) {
	t.Parallel()
	dice := newDice(1009)
	unsaved := 0
	for round := range 6 {
		k := newKeeper(t, []api.Super{small, {Sectors: 33, Log: 18, Nodes: 8}}[round%2], dice)
		for range 300 {
			k.step()
			k.look()
			unsaved += k.Unsaved()
		}
	}
	if unsaved < 2000 {
		t.Errorf("the draw is thin: %d", unsaved)
	}
}

// P1010: a directory has had no more blocks than its most entries fill; without entries it has none.
func TestP1010Drawn(t *testing.T) {
	t.Parallel()
	dice := newDice(1010)
	for round := range 12 {
		_, s, k := fresh(t, small, api.KDir)
		var held []string
		most := 0
		for step := range 300 {
			grow := (step/60+round)%2 == 0 // by turns it grows and goes
			if name := "n" + string(rune('0'+dice.Below(75))); len(held) == 0 || dice.Below(4) > 0 == grow {
				if slices.Contains(held, name) {
					continue
				}
				adds(t, k, 1, name, 2, 1, api.OK)
				held = append(held, name)
			} else {
				i := dice.Below(len(held))
				dels(t, k, 1, held[i], api.OK)
				held = slices.Delete(held, i, i+1)
			}
			most = max(most, len(held))
			if n, e := k.Load(1); e != api.OK || n.Size > (most+7)/8*512 || n.Owned > (most+7)/8 {
				t.Fatalf("P1010: %d entries at most: size %d, owned %d, %v", most, n.Size, n.Owned, e)
			}
			k = next(t, s, k)
		}
		for _, name := range held {
			dels(t, k, 1, name, api.OK)
			k = next(t, s, k)
		}
		stat(t, k, 1, 0, 0)
		if left(t, k) != 39 {
			t.Fatalf("P1010: %d blocks are free", left(t, k))
		}
		if most < 20 {
			t.Errorf("the draw is thin: %d", most)
		}
	}
}
