package span_test

import (
	"maps"
	"slices"
	"testing"

	"vellum/api"
	"vellum/span"
	"vellum/trial"
)

// place is an index of a node.
type place struct{ number, index int }

// keeper lets nodes grow and frees their blocks, and remembers which block lies where.
type keeper struct {
	trial.Memory[*span.Map, place, int]
	t *testing.T
}

func newKeeper(t *testing.T, form api.Super, dice *trial.Dice) *keeper {
	t.Helper()
	k := &keeper{t: t}
	k.T, k.Dice, k.On = t, dice, on
	d, s, m := fresh(t, form, form.Nodes)
	is(t, "Abort", m.Abort(), api.OK)
	k.Start(d, s)
	return k
}

// indexes are those of a node that hold a block, rising.
func (k *keeper) indexes(number int) []int {
	var list []int
	for p := range k.Now {
		if p.number == number {
			list = append(list, p.index)
		}
	}
	slices.Sort(list)
	return list
}

func (k *keeper) index() int {
	d := k.Dice
	return trial.One(d, d.Below(12), 8+d.Below(6), 130+d.Below(12), 138+d.Below(16384), 138+128*d.Below(128), 16521-d.Below(200), seams[d.Below(len(seams))])
}

func (k *keeper) grow() {
	k.t.Helper()
	p := place{1 + k.Dice.Below(k.View.Layout().Nodes), k.index()}
	b, fresh, e := k.View.Grow(p.number, p.index)
	was, there := k.Now[p]
	switch {
	case e == api.ErrNoSpace || e == api.ErrBudget:
		k.Abort()
	case e != api.OK || fresh == there || there && b != was:
		k.t.Fatalf("Grow(%d, %d): %d, %v, %v; and %d was there", p.number, p.index, b, fresh, e, was)
	default:
		k.Now[p] = b
	}
}

func (k *keeper) punch() {
	k.t.Helper()
	number, from := 1+k.Dice.Below(k.View.Layout().Nodes), k.index()
	to := trial.One(k.Dice, from+1, min(16522, from+200), 16522)
	if e := k.View.Punch(number, from, to); e == api.ErrBudget {
		k.Abort()
		return
	} else if e != api.OK {
		k.t.Fatalf("Punch(%d, %d, %d): %v", number, from, to, e)
	}
	maps.DeleteFunc(k.Now, func(p place, _ int) bool { return p.number == number && p.index >= from && p.index < to })
}

// write puts other bytes into a data block: they are not this layer's business.
func (k *keeper) write() {
	k.t.Helper()
	list := slices.Sorted(maps.Values(k.Now))
	if len(list) == 0 {
		return
	}
	if e := k.View.Put(list[k.Dice.Below(len(list))], k.Dice.Bytes(512)); e == api.ErrBudget {
		k.Abort()
	}
}

func (k *keeper) step() {
	k.t.Helper()
	if k.Dice.Below(3) == 0 { // another map goes on where this one was
		k.View = trial.One(k.Dice, span.On(k.View.Table), on(k.View.Tx))
	}
	switch what := k.Dice.Below(24); {
	case what < 14:
		k.grow()
	case what < 18:
		k.punch()
	case what < 19:
		k.write()
	case what < 22:
		k.Commit()
	case what < 23:
		k.Abort()
	default:
		k.Cut()
	}
}

// named are all blocks that a node's pointers name, indirect ones too, found without the map's calls.
func (k *keeper) named(n api.Node) []int {
	k.t.Helper()
	list := append(n.Direct[:], n.Single, n.Double)
	rows := []int{n.Single}
	if n.Double != 0 {
		rows = append(rows, k.row(n.Double)...)
		list = append(list, rows[1:]...)
	}
	for _, row := range rows {
		if row != 0 {
			list = append(list, k.row(row)...)
		}
	}
	return slices.DeleteFunc(list, func(b int) bool { return b == 0 })
}

// row are the pointers of an indirect block, of which one must name a block.
func (k *keeper) row(block int) []int {
	k.t.Helper()
	pointers := plain{k.View.Table}.pointers(block)
	if slices.Max(pointers) == 0 {
		k.t.Fatalf("the indirect block %d holds no pointer", block)
	}
	return pointers
}

// look asks that every block is where it was taken, and for P808.
func (k *keeper) look() {
	k.t.Helper()
	owner := map[int]int{}
	for number := 1; number <= k.View.Layout().Nodes; number++ {
		n := load(k.t, k.View, number)
		list := k.named(n)
		for _, b := range list {
			if owner[b] != 0 {
				k.t.Fatalf("P808: node %d names block %d, which node %d names", number, b, owner[b])
			}
			owner[b] = number
		}
		indexes := k.indexes(number)
		if n.Owned != len(list) || n.Owned != ownedBy(indexes) {
			k.t.Fatalf("P808: node %d owns %d, names %d, and should have %d", number, n.Owned, len(list), ownedBy(indexes))
		}
		if n.Owned == 0 && n != (api.Node{Kind: api.KFile}) {
			k.t.Fatalf("P808: node %d owns nothing, and is %+v", number, n)
		}
		runs(k.t, k.View, number, rows(indexes)...)
		for _, index := range indexes {
			wheres(k.t, k.View, number, index, k.Now[place{number, index}], api.OK)
		}
	}
	bits := get(k.t, k.View, 0)
	for b := k.View.Layout().Data; b < k.View.Layout().Blocks; b++ {
		if set := bits[b/8]>>(b%8)%2 == 1; set != (owner[b] != 0) {
			k.t.Fatalf("P808: bit of block %d: %v, and node %d names it", b, set, owner[b])
		}
	}
}

// P808 behind every call of drawn rows of transactions, aborts and cuts.
func TestP808Drawn(t *testing.T) {
	t.Parallel()
	dice := newDice(808)
	for round := range 8 {
		k := newKeeper(t, []api.Super{small, {Sectors: 121, Log: 18, Nodes: 4}}[round%2], dice)
		for range 250 {
			k.step()
			k.look()
		}
	}
}

// What others have taken stays taken, and what is behind the last block stays as it is.
func TestP808OthersBits(t *testing.T) {
	_, s, m := fresh(t, small, 2)
	bits := get(t, m, 0)
	bits[0] |= 1 << 5 // block 5
	bits[2] |= 1 << 1 // block 17
	bits[5] |= 1 << 7 // a bit behind the last block, 42
	is(t, "Put", m.Put(0, bits), api.OK)
	m = next(t, s, m)
	grows(t, m, 1, 138, 7, true, api.OK) // 4 and 6 lead to it
	grows(t, m, 2, 10, 9, true, api.OK)
	for index := range 8 {
		grown(t, m, 2, index)
	}
	wheres(t, m, 2, 7, 18, api.OK)
	cutFrom(t, m, 1, 0, api.OK)
	cutFrom(t, m, 2, 0, api.OK)
	if now := get(t, m, 0); !slices.Equal(now, bits) {
		t.Fatalf("P808: the bitmap holds %v, want %v", now[:8], bits[:8])
	}
}
