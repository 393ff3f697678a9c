package node_test

import (
	"maps"
	"slices"
	"testing"

	"vellum/api"
	"vellum/node"
	"vellum/pool"
	"vellum/store"
	"vellum/trial"
)

// keeper makes, saves and frees nodes by the calls of the table alone, and remembers them.
type keeper struct {
	trial.Memory[*node.Table, int, api.Node]
	t    *testing.T
	form api.Super
}

func newKeeper(t *testing.T, form api.Super, dice *trial.Dice) *keeper {
	t.Helper()
	k := &keeper{t: t, form: form}
	k.T, k.Dice = t, dice
	k.On = func(tx *store.Tx) *node.Table { return node.On(pool.On(tx)) }
	d, s, table := fresh(t, form)
	is(t, "Commit", table.Commit(), api.OK)
	k.Start(d, s)
	return k
}

// lowest is the number that the next node has: 0, if all are held.
func (k *keeper) lowest() int {
	for number := 1; number <= k.form.Nodes; number++ {
		if _, held := k.Now[number]; !held {
			return number
		}
	}
	return 0
}

// some is the number of a node that is held, and 0 if none is.
func (k *keeper) some() int {
	list := slices.Sorted(maps.Keys(k.Now))
	if len(list) == 0 {
		return 0
	}
	return trial.One(k.Dice, list[k.Dice.Below(len(list))], list[0], list[len(list)-1])
}

func (k *keeper) make() {
	k.t.Helper()
	number := k.lowest()
	if number == 0 {
		makes(k.t, k.View, api.KFile, 0, 0, api.ErrNoNodes)
		k.Abort()
		return
	}
	n := api.Node{Kind: 1 + k.Dice.Below(3)}
	if n.Kind == api.KDir {
		n.Parent, n.Links = 1+k.Dice.Below(k.form.Nodes), 2
	}
	makes(k.t, k.View, n.Kind, n.Parent, number, api.OK)
	k.Now[number] = n
}

func (k *keeper) save() {
	k.t.Helper()
	number := k.some()
	if number == 0 {
		return
	}
	n := k.Now[number]
	n.Links, n.Size, n.Owned, n.Double = k.Dice.Below(65), k.Dice.Below(9999), trial.One(k.Dice, 0, 0, 3), k.Dice.Below(40)
	n.Direct[k.Dice.Below(10)] = k.Dice.Below(2048)
	is(k.t, "Save", k.View.Save(number, n), api.OK)
	k.Now[number] = n
}

func (k *keeper) free() {
	k.t.Helper()
	number := k.some()
	switch {
	case number == 0:
		is(k.t, "Free", k.View.Free(1), api.ErrNode)
	case k.Now[number].Owned > 0:
		is(k.t, "Free", k.View.Free(number), api.ErrOwned)
	default:
		is(k.t, "Free", k.View.Free(number), api.OK)
		delete(k.Now, number)
	}
}

func (k *keeper) step() {
	k.t.Helper()
	if k.Dice.Below(3) == 0 { // another table goes on where this one was
		k.View = node.On(trial.One(k.Dice, k.View.Pool, pool.On(k.View.Tx)))
	}
	switch what := k.Dice.Below(24); {
	case what < 8:
		k.make()
	case what < 14:
		k.save()
	case what < 18:
		k.free()
	case what < 19:
		k.blocks()
	case what < 22:
		k.Commit()
	case what < 23:
		k.Abort()
	default:
		k.Cut()
	}
}

// blocks takes data blocks and drops one: none of the table's business.
func (k *keeper) blocks() {
	k.t.Helper()
	if free, _, e := k.View.Left(); e != api.OK || free < 2 {
		is(k.t, "Left", e, api.OK)
		return
	}
	b, e := k.View.TakeBlock()
	is(k.t, "TakeBlock", e, api.OK)
	_, e = k.View.TakeBlock()
	is(k.t, "TakeBlock", e, api.OK)
	is(k.t, "DropBlock", k.View.DropBlock(b), api.OK)
}

// look asks for P708, every node is what it should be, and for P709, the bitmap says what the slots say.
func (k *keeper) look() {
	k.t.Helper()
	bits := get(k.t, k.View, 1)
	for number := 1; number <= k.form.Nodes; number++ {
		n, held := k.Now[number]
		want := api.ErrNode
		if held {
			want = api.OK
		}
		loads(k.t, k.View, number, n, want)
		if set := bits[(number-1)/8]>>((number-1)%8)%2 == 1; set != held {
			k.t.Fatalf("P709: bit of node %d: %v, but a node in its slot: %v", number, set, held)
		}
	}
	list := slices.Sorted(maps.Keys(k.Now))
	all(k.t, k.View, 0, list...)
	if _, left, e := k.View.Left(); left != k.form.Nodes-len(list) || e != api.OK {
		k.t.Fatalf("P709: Left tells %d nodes, %v, and there are %d of %d", left, e, len(list), k.form.Nodes)
	}
	for kind := 1; kind <= 3; kind++ {
		all(k.t, k.View, kind, slices.DeleteFunc(slices.Clone(list), func(number int) bool { return k.Now[number].Kind != kind })...)
	}
}

// In stores of at most a hundred nodes no transaction of these puts too many blocks, if it is ended in time.
func TestP708P709Drawn(t *testing.T) {
	t.Parallel()
	dice := newDice(708)
	for round := range 20 {
		k := newKeeper(t, forms[round%4], dice)
		if round%4 == 3 { // many nodes at first, so that the table's last blocks are in use
			for range k.form.Nodes - 3 {
				k.make()
				if k.Dice.Below(5) == 0 {
					k.Commit()
				}
			}
		}
		for range 300 {
			k.step()
			k.look()
			if k.Unsaved() > 10 {
				k.Commit()
			}
		}
	}
}

// All numbers go round: each that is freed is made again, the lowest first.
func TestP709Lowest(t *testing.T) {
	for _, form := range forms[:4] {
		k := newKeeper(t, form, newDice(709))
		for range form.Nodes {
			k.make()
			if k.Unsaved() > 10 {
				k.Commit()
			}
		}
		k.Commit()
		for _, number := range []int{form.Nodes, 2, form.Nodes - 1, 1} {
			is(t, "Free", k.View.Free(number), api.OK)
			delete(k.Now, number)
			k.look()
		}
		for _, number := range []int{1, 2, form.Nodes - 1, form.Nodes} {
			if k.lowest() != number {
				t.Fatalf("the lowest is %d, want %d", k.lowest(), number)
			}
			k.make()
			k.look()
		}
		k.make() // none is left
		k.look()
	}
}
