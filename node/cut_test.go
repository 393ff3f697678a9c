package node_test

import (
	"testing"

	"vellum/api"
	"vellum/node"
	"vellum/pool"
	"vellum/store"
	"vellum/trial"
)

// table is what a store of twelve nodes tells of them, and how many numbers are free.
type table struct {
	nodes [12]api.Node
	free  int
}

var twelve = api.Super{Sectors: 64, Log: 18, Nodes: 12}

func tableOf(t *testing.T, k *node.Table) table {
	t.Helper()
	var told table
	list, e := k.All(0)
	is(t, "All", e, api.OK)
	for _, number := range list {
		told.nodes[number-1], e = k.Load(number)
		is(t, "Load", e, api.OK)
	}
	_, told.free, e = k.Left()
	is(t, "Left", e, api.OK)
	if told.free != 12-len(list) {
		t.Fatalf("P709: %d numbers are free, and %d nodes are there", told.free, len(list))
	}
	return told
}

// changes makes nodes of these kinds, saves these with a size of so many bytes and more, and frees these.
func changes(t *testing.T, made, saved []int, size int, freed []int) func(*node.Table) {
	return func(k *node.Table) {
		t.Helper()
		for _, kind := range made {
			_, e := k.Make(kind, []int{0, 0, 1, 0}[kind])
			is(t, "Make", e, api.OK)
		}
		for _, number := range saved {
			n, e := k.Load(number)
			is(t, "Load", e, api.OK)
			n.Size = size + number
			is(t, "Save", k.Save(number, n), api.OK)
		}
		for _, number := range freed {
			is(t, "Free", k.Free(number), api.OK)
		}
	}
}

// steps are transactions of which no two of the tables between are alike, those of the aborted ones neither.
func steps(t *testing.T) []trial.Step[*node.Table] {
	return []trial.Step[*node.Table]{
		{Change: changes(t, []int{2, 1, 3}, nil, 0, nil), Sync: true},
		{Change: changes(t, []int{1}, nil, 0, nil), Abort: true},
		{Change: changes(t, []int{1, 1}, []int{2, 4}, 100, nil)},
		{Change: changes(t, nil, []int{1, 5}, 300, []int{3}), Abort: true},
		{Change: changes(t, nil, nil, 0, []int{2, 4})},
		{Change: changes(t, nil, []int{1, 5}, 200, nil), Sync: true},
		{Change: changes(t, []int{1, 1, 1, 3, 2, 2}, nil, 0, nil), Abort: true, Sync: true},
		{Change: changes(t, []int{1, 1, 1, 3, 2, 2}, []int{9}, 7, nil)},
		{Change: changes(t, nil, []int{3}, 8, []int{9, 1})},
		{Change: changes(t, []int{1, 3, 3}, nil, 0, nil)},
		{Change: changes(t, nil, nil, 0, []int{6, 7, 8}), Sync: true},
		{Change: changes(t, nil, []int{10, 2, 3, 1}, 5000, nil)},
		{Change: changes(t, []int{2}, nil, 0, []int{10, 2, 3})},
		{Change: changes(t, nil, nil, 0, []int{9, 4}), Abort: true},
		{Change: changes(t, nil, []int{1}, 6000, nil), Sync: true},
		{Change: changes(t, []int{1}, nil, 0, []int{1})},
	}
}

// cuts begins the steps on a store whose bitmaps are laid, committed and home.
func cuts(t *testing.T) *trial.Cuts[*node.Table, table] {
	t.Helper()
	d, s, k := fresh(t, twelve)
	is(t, "Commit", k.Commit(), api.OK)
	is(t, "Checkpoint", s.Checkpoint(), api.OK)
	return &trial.Cuts[*node.Table, table]{
		T:     t,
		Image: d.Image(),
		On:    func(tx *store.Tx) *node.Table { return node.On(pool.On(tx)) },
		Tell:  func(k *node.Table) table { return tableOf(t, k) },
		Dead:  func(k *node.Table) { asks(t, k, api.ErrDead) },
		Steps: steps(t),
	}
}

// The power is cut at every call of the steps, with many picks.
func TestP710EveryCut(t *testing.T) {
	t.Parallel()
	if count := cuts(t).Every(); count < 400 {
		t.Errorf("%d cuts are few", count)
	}
}

// A transaction that is open when the power goes was never.
func TestP710Open(t *testing.T) { cuts(t).Within() }

// What an Abort lets go was never, also behind an error that spoils.
func TestP710Abort(t *testing.T) {
	_, s, k := three(t)
	was := blocks(t, k)
	for _, spoil := range []api.Errno{api.OK, api.ErrCorrupt, api.ErrNoNodes, api.ErrBudget} {
		makes(t, k, api.KFile, 0, 5, api.OK)
		is(t, "Save", k.Save(1, api.Node{Kind: 2, Parent: 4, Links: 9}), api.OK)
		is(t, "Free", k.Free(3), api.OK)
		switch spoil {
		case api.ErrCorrupt:
			is(t, "Put", k.Put(3, fill(9)), api.OK)
			k.Load(6)
		case api.ErrNoNodes:
			for range 5 {
				k.Make(api.KFile, 0)
			}
		case api.ErrBudget:
			putOthers(t, k, 13)
			k.Put(30, fill(1))
		}
		is(t, "State", k.State(), spoil)
		is(t, "Abort", k.Abort(), api.OK)
		k = begun(t, s)
		if list := unlike(was, blocks(t, k)); list != nil {
			t.Fatalf("P710: behind an Abort the blocks %v are unlike", list)
		}
	}
}
