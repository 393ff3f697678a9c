package pool_test

import (
	"testing"

	"vellum/api"
	"vellum/pool"
	"vellum/trial"
)

// changes takes so many blocks and nodes, and drops these.
func changes(t *testing.T, blocks, nodes int, dropBlocks, dropNodes []int) func(*pool.Pool) {
	return func(p *pool.Pool) {
		t.Helper()
		for range blocks {
			_, e := p.TakeBlock()
			is(t, "TakeBlock", e, api.OK)
		}
		for range nodes {
			_, e := p.TakeNode()
			is(t, "TakeNode", e, api.OK)
		}
		for _, b := range dropBlocks {
			is(t, "DropBlock", p.DropBlock(b), api.OK)
		}
		for _, k := range dropNodes {
			is(t, "DropNode", p.DropNode(k), api.OK)
		}
	}
}

// steps are transactions of which no two of the states between are alike, those of the aborted ones neither.
func steps(t *testing.T) []trial.Step[*pool.Pool] {
	return []trial.Step[*pool.Pool]{
		{Change: changes(t, 3, 2, nil, nil), Sync: true},
		{Change: changes(t, 1, 0, nil, nil), Abort: true},
		{Change: changes(t, 9, 1, nil, []int{1})},
		{Change: changes(t, 0, 0, []int{4, 10}, nil), Abort: true},
		{Change: changes(t, 0, 0, []int{3, 5}, []int{2}), Sync: true},
		{Change: changes(t, 0, 2, nil, nil), Abort: true, Sync: true},
		{Change: changes(t, 20, 1, nil, nil)},
		{Change: changes(t, 0, 0, []int{12, 20, 21}, nil)},
		{Change: changes(t, 4, 0, nil, []int{3})},
		{Change: changes(t, 0, 0, nil, []int{1}), Sync: true},
		{Change: changes(t, 2, 1, []int{9}, nil)},
		{Change: changes(t, 6, 2, nil, nil)},
		{Change: changes(t, 2, 1, nil, nil), Abort: true},
		{Change: changes(t, 0, 0, []int{33, 34, 35}, nil), Sync: true},
		{Change: changes(t, 0, 0, []int{3, 4, 5, 6}, []int{1, 3})},
	}
}

// cuts begins the steps on a store whose bitmaps are laid, committed and home.
func cuts(t *testing.T) *trial.Cuts[*pool.Pool, string] {
	t.Helper()
	d, s, p := fresh(t, small)
	is(t, "Commit", p.Commit(), api.OK)
	is(t, "Checkpoint", s.Checkpoint(), api.OK)
	return &trial.Cuts[*pool.Pool, string]{
		T:     t,
		Image: d.Image(),
		On:    pool.On,
		Tell:  func(p *pool.Pool) string { return string(trial.Get(t, p.Tx, 0)) + string(trial.Get(t, p.Tx, 1)) },
		Dead:  func(p *pool.Pool) { asks(t, p, api.ErrDead) },
		Steps: steps(t),
	}
}

// The power is cut at every call of the steps, with many picks.
func TestP604EveryCut(t *testing.T) {
	t.Parallel()
	if count := cuts(t).Every(); count < 400 {
		t.Errorf("%d cuts are few", count)
	}
}

// A transaction that is open when the power goes was never.
func TestP604Open(t *testing.T) { cuts(t).Within() }
