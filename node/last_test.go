package node_test

import (
	"maps"
	"slices"
	"testing"

	"vellum/api"
	"vellum/disk"
	"vellum/node"
	"vellum/pool"
	"vellum/store"
	"vellum/trial"
)

// keeper makes, saves and frees nodes by the calls of the table alone, and remembers them.
type keeper struct {
	t     *testing.T
	dice  *trial.Dice
	d     *disk.Disk
	s     *store.Store
	k     *node.Table
	home  map[int]api.Node // as the last Commit left them
	nodes map[int]api.Node
	form  api.Super
}

func newKeeper(t *testing.T, form api.Super, dice *trial.Dice) *keeper {
	t.Helper()
	k := &keeper{t: t, dice: dice, form: form, home: map[int]api.Node{}, nodes: map[int]api.Node{}}
	k.d, k.s, k.k = fresh(t, form)
	is(t, "Commit", k.k.Commit(), api.OK)
	k.k = begun(t, k.s)
	return k
}

// lowest is the number that the next node has: 0, if all are held.
func (k *keeper) lowest() int {
	for number := 1; number <= k.form.Nodes; number++ {
		if _, held := k.nodes[number]; !held {
			return number
		}
	}
	return 0
}

// some is the number of a node that is held, and 0 if none is.
func (k *keeper) some() int {
	list := slices.Sorted(maps.Keys(k.nodes))
	if len(list) == 0 {
		return 0
	}
	return trial.One(k.dice, list[k.dice.Below(len(list))], list[0], list[len(list)-1])
}

func (k *keeper) make() {
	k.t.Helper()
	number := k.lowest()
	if number == 0 {
		makes(k.t, k.k, api.KFile, 0, 0, api.ErrNoNodes)
		k.end(false)
		return
	}
	n := api.Node{Kind: 1 + k.dice.Below(3)}
	if n.Kind == api.KDir {
		n.Parent, n.Links = 1+k.dice.Below(k.form.Nodes), 2
	}
	makes(k.t, k.k, n.Kind, n.Parent, number, api.OK)
	k.nodes[number] = n
}

func (k *keeper) save() {
	k.t.Helper()
	number := k.some()
	if number == 0 {
		return
	}
	n := k.nodes[number]
	n.Links, n.Size, n.Owned, n.Double = k.dice.Below(65), k.dice.Below(9999), trial.One(k.dice, 0, 0, 3), k.dice.Below(40)
	n.Direct[k.dice.Below(10)] = k.dice.Below(2048)
	is(k.t, "Save", k.k.Save(number, n), api.OK)
	k.nodes[number] = n
}

func (k *keeper) free() {
	k.t.Helper()
	number := k.some()
	switch {
	case number == 0:
		is(k.t, "Free", k.k.Free(1), api.ErrNode)
	case k.nodes[number].Owned > 0:
		is(k.t, "Free", k.k.Free(number), api.ErrOwned)
	default:
		is(k.t, "Free", k.k.Free(number), api.OK)
		delete(k.nodes, number)
	}
}

// end ends the transaction and begins another.
func (k *keeper) end(commit bool) {
	k.t.Helper()
	if commit {
		is(k.t, "Commit", k.k.Commit(), api.OK)
		k.home = maps.Clone(k.nodes)
	} else {
		is(k.t, "Abort", k.k.Abort(), api.OK)
		k.nodes = maps.Clone(k.home)
	}
	k.k = begun(k.t, k.s)
}

// again cuts the power behind a Sync, which lets go what is not committed.
func (k *keeper) again() {
	k.t.Helper()
	if k.dice.Below(2) == 0 {
		is(k.t, "Checkpoint", k.s.Checkpoint(), api.OK)
	} else {
		is(k.t, "Sync", k.s.Sync(), api.OK)
	}
	k.d.Crash([]api.Pick{trial.One(k.dice, trial.Keep(), trial.Lose(), trial.Tear(k.dice.Below(512)))})
	k.s = opened(k.t, k.d)
	k.nodes = maps.Clone(k.home)
	k.k = begun(k.t, k.s)
}

func (k *keeper) step() {
	k.t.Helper()
	if k.dice.Below(3) == 0 { // another table goes on where this one was
		k.k = node.On(trial.One(k.dice, k.k.Pool, pool.On(k.k.Tx)))
	}
	switch what := k.dice.Below(24); {
	case what < 8:
		k.make()
	case what < 14:
		k.save()
	case what < 18:
		k.free()
	case what < 19:
		k.blocks()
	case what < 22:
		k.end(true)
	case what < 23:
		k.end(false)
	default:
		k.again()
	}
}

// blocks takes data blocks and drops one: none of the table's business.
func (k *keeper) blocks() {
	k.t.Helper()
	if free, _, e := k.k.Left(); e != api.OK || free < 2 {
		is(k.t, "Left", e, api.OK)
		return
	}
	b, e := k.k.TakeBlock()
	is(k.t, "TakeBlock", e, api.OK)
	_, e = k.k.TakeBlock()
	is(k.t, "TakeBlock", e, api.OK)
	is(k.t, "DropBlock", k.k.DropBlock(b), api.OK)
}

// look asks for P708, every node is what it should be, and for P709, the bitmap says what the slots say.
func (k *keeper) look() {
	k.t.Helper()
	bits := get(k.t, k.k, 1)
	for number := 1; number <= k.form.Nodes; number++ {
		n, held := k.nodes[number]
		want := api.ErrNode
		if held {
			want = api.OK
		}
		loads(k.t, k.k, number, n, want)
		if set := bits[(number-1)/8]>>((number-1)%8)%2 == 1; set != held {
			k.t.Fatalf("P709: bit of node %d: %v, but a node in its slot: %v", number, set, held)
		}
	}
	list := slices.Sorted(maps.Keys(k.nodes))
	all(k.t, k.k, 0, list...)
	if _, left, e := k.k.Left(); left != k.form.Nodes-len(list) || e != api.OK {
		k.t.Fatalf("P709: Left tells %d nodes, %v, and there are %d of %d", left, e, len(list), k.form.Nodes)
	}
	for kind := 1; kind <= 3; kind++ {
		all(k.t, k.k, kind, slices.DeleteFunc(slices.Clone(list), func(number int) bool { return k.nodes[number].Kind != kind })...)
	}
}

// In stores of at most a hundred nodes no transaction of these puts too many blocks, if it is ended in time.
func TestP708P709Drawn(t *testing.T) {
	t.Parallel()
	dice := newDice(708)
	for round := range 20 {
		k := newKeeper(t, forms[round%4], dice)
		if round%4 == 3 { // many nodes at first, so that the table's last blocks are in use
			for range k.form.Nodes - 3 {
				k.make()
				if k.dice.Below(5) == 0 {
					k.end(true)
				}
			}
		}
		for range 300 {
			k.step()
			k.look()
			if changed(k) > 10 {
				k.end(true)
			}
		}
	}
}

// changed counts the nodes that are not as they were committed.
func changed(k *keeper) int {
	count := 0
	for number := 1; number <= k.form.Nodes; number++ {
		if k.nodes[number] != k.home[number] {
			count++
		}
	}
	return count
}

// All numbers go round: each that is freed is made again, the lowest first.
func TestP709Lowest(t *testing.T) {
	for _, form := range forms[:4] {
		k := newKeeper(t, form, newDice(709))
		for range form.Nodes {
			k.make()
			if changed(k) > 10 {
				k.end(true)
			}
		}
		k.end(true)
		for _, number := range []int{form.Nodes, 2, form.Nodes - 1, 1} {
			is(t, "Free", k.k.Free(number), api.OK)
			delete(k.nodes, number)
			k.look()
		}
		for _, number := range []int{1, 2, form.Nodes - 1, form.Nodes} {
			if k.lowest() != number {
				t.Fatalf("the lowest is %d, want %d", k.lowest(), number)
			}
			k.make()
			k.look()
		}
		k.make() // none is left
		k.look()
	}
}
