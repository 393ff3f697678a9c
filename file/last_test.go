package file_test

import (
	"testing"

	"vellum/api"
	"vellum/file"
	"vellum/trial"
)

// keeper changes files by the calls of this layer and of the map, and remembers what they hold.
type keeper struct {
	trial.Memory[*file.Files, int, sheet]
	t *testing.T
}

func newKeeper(t *testing.T, form api.Super, dice *trial.Dice) *keeper {
	t.Helper()
	k := &keeper{t: t}
	k.T, k.Dice, k.On = t, dice, on
	d, s, f := fresh(t, form, 0)
	is(t, "Abort", f.Abort(), api.OK)
	k.Start(d, s)
	return k
}

// some draws a node that is there, and makes one if there is none.
func (k *keeper) some() int {
	k.t.Helper()
	number := 1 + k.Dice.Below(k.View.Layout().Nodes)
	if _, there := k.Now[number]; there {
		return number
	}
	made, e := k.View.Make(api.KFile, 0)
	if !k.Let("Make", e) {
		return k.some()
	}
	k.Now[made] = sheet{}
	return made
}

// place draws a byte of a content; some lie far behind.
func (k *keeper) place() int {
	d := k.Dice
	return trial.One(d, d.Below(700), d.Below(6000), 512*d.Below(14), 512*d.Below(14)+d.Below(3), 69000+d.Below(3000), d.Below(150000))
}

func (k *keeper) write() {
	k.t.Helper()
	number, off := k.some(), k.place()
	data := string(k.Dice.Bytes(1 + k.Dice.Below(min(trial.One(k.Dice, 3, 700, 4096), 4096-off%4096))))
	if k.Let("WriteAt", k.View.WriteAt(number, off, []byte(data))) {
		k.Now[number] = k.Now[number].write(off, data)
		reads(k.t, k.View, number, off, len(data), data, api.OK)
	}
}

func (k *keeper) resize() {
	k.t.Helper()
	number, size := k.some(), k.place()
	if k.Dice.Below(2) == 0 {
		size = max(0, len(k.Now[number].bytes)-k.Dice.Below(1500)) // a little less
	}
	e := k.View.Resize(number, size)
	if e == api.ErrNoSpace {
		k.t.Fatal("P904: Resize: no space")
	}
	if k.Let("Resize", e) {
		k.Now[number] = k.Now[number].resize(size)
	}
}

func (k *keeper) wipe() {
	k.t.Helper()
	number, off := k.some(), k.place()
	n := trial.One(k.Dice, 1, k.Dice.Below(1500), 512, 1<<63-1)
	e := k.View.Wipe(number, off, n)
	if e == api.ErrNoSpace {
		k.t.Fatal("P904: Wipe: no space")
	}
	if k.Let("Wipe", e) {
		k.Now[number] = k.Now[number].wipe(off, n)
	}
}

// free lets a node go, and what it owns.
func (k *keeper) free() {
	k.t.Helper()
	number := k.some()
	if k.Dice.Below(2) == 0 && load(k.t, k.View, number).Owned > 0 {
		is(k.t, "Free", k.View.Free(number), api.ErrOwned)
	}
	if k.Let("Resize", k.View.Resize(number, 0)) && k.Let("Free", k.View.Free(number)) {
		delete(k.Now, number)
	}
}

// mapped makes a call of the map: a hole gets a block, or an index becomes a hole.
func (k *keeper) mapped() {
	k.t.Helper()
	number := k.some()
	s := k.Now[number]
	if s.blocks == "" {
		return
	}
	index := k.Dice.Below(len(s.blocks))
	if k.Dice.Below(2) == 0 {
		if _, _, e := k.View.Grow(number, index); k.Let("Grow", e) {
			k.Now[number] = s.grow(index)
		}
		return
	}
	if k.Let("Punch", k.View.Punch(number, index, index+1)) {
		k.Now[number] = s.wipe(512*index, 512)
	}
}

func (k *keeper) step() {
	k.t.Helper()
	switch what := k.Dice.Below(30); {
	case what < 12:
		k.write()
	case what < 16:
		k.resize()
	case what < 20:
		k.wipe()
	case what < 22:
		k.mapped()
	case what < 23:
		k.free()
	case what < 27:
		k.Commit()
	case what < 28:
		k.Abort()
	default:
		k.Cut()
	}
}

// look asks for what every node should hold, and that each data block is free or owned.
func (k *keeper) look() {
	k.t.Helper()
	l := k.View.Layout()
	owned := 0
	for number := 1; number <= l.Nodes; number++ {
		want, there := k.Now[number]
		if !there {
			reads(k.t, k.View, number, 0, 1, "", api.ErrNode)
			continue
		}
		holds(k.t, k.View, number, want)
		owned += load(k.t, k.View, number).Owned
	}
	if left(k.t, k.View)+owned != l.Blocks-l.Data {
		k.t.Fatalf("P903: %d blocks are free and %d owned, of %d", left(k.t, k.View), owned, l.Blocks-l.Data)
	}
}

// P902 and P903 behind every call of drawn rows of transactions, aborts and cuts.
func TestP902P903Drawn(t *testing.T) {
	t.Parallel()
	dice := newDice(902)
	unsaved := 0
	for round := range 6 {
		k := newKeeper(t, []api.Super{small, {Sectors: 160, Log: 30, Nodes: 8}}[round%2], dice)
		for range 300 {
			k.step()
			k.look()
			unsaved += k.Unsaved()
		}
	}
	if unsaved < 1500 {
		t.Errorf("the draw is thin: %d", unsaved)
	}
}

// Where a transaction is spoilt in the midst of a write, nothing of it was.
func TestP903Spoilt(t *testing.T) {
	_, s, f := fresh(t, small, 2)
	writes(t, f, 1, 0, "kept", api.OK)
	f = next(t, s, f)
	takeTo(t, f, 5)
	f = next(t, s, f)
	was := blocks(t, f)
	writes(t, f, 2, 0, step[:512*3], api.OK)
	writes(t, f, 1, 512, step[:512*3], api.ErrNoSpace)
	is(t, "Commit", f.Commit(), api.ErrNoSpace)
	f = undone(t, s, f)
	if list := unlike(was, blocks(t, f)); list != nil || left(t, f) != 5 {
		t.Fatalf("P903: %v are unlike, %d free", list, left(t, f))
	}
	holds(t, f, 1, sheet{}.write(0, "kept"))
}
