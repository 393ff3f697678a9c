package span_test

import (
	"testing"

	"vellum/api"
	"vellum/span"
	"vellum/trial"
)

// sight is what a store with two files tells of them: the nodes, the blocks at some indexes, and how many are free.
type sight struct {
	nodes [2]api.Node
	at    [2][12]int
	free  int
}

// seen are the indexes behind indirect blocks at which the steps change something.
var seen = [12]int{10, 11, 12, 137, 138, 139, 266, 393, 394, 8000, 16520, 16521}

func sightOf(t *testing.T, m *span.Map) sight {
	t.Helper()
	told := sight{free: left(t, m)}
	owned := 0
	for i := range told.nodes {
		told.nodes[i] = load(t, m, i+1)
		owned += told.nodes[i].Owned
		for k, index := range seen {
			b, e := m.Where(i+1, index)
			is(t, "Where", e, api.OK)
			told.at[i][k] = b
		}
	}
	if told.free+owned != 39 {
		t.Fatalf("P808: %d blocks are free, and %d are owned", told.free, owned)
	}
	return told
}

// changes lets a node grow at these indexes, and frees it from the one on.
func changes(t *testing.T, number int, indexes []int, from int) func(*span.Map) {
	return func(m *span.Map) {
		t.Helper()
		grown(t, m, number, indexes...)
		cutFrom(t, m, number, from, api.OK)
	}
}

// holes frees these ranges of a node.
func holes(t *testing.T, number int, ranges ...api.Run) func(*span.Map) {
	return func(m *span.Map) {
		t.Helper()
		for _, r := range ranges {
			punches(t, m, number, r.From, r.To, api.OK)
		}
	}
}

// steps are transactions of which no two of the sights between are alike, those of the aborted ones neither.
func steps(t *testing.T) []trial.Step[*span.Map] {
	return []trial.Step[*span.Map]{
		{Change: changes(t, 1, []int{0, 9, 10}, 16522), Sync: true},
		{Change: changes(t, 1, []int{1}, 16522), Abort: true},
		{Change: changes(t, 2, []int{138, 266, 16521}, 16522)},
		{Change: changes(t, 1, nil, 9), Abort: true},
		{Change: holes(t, 2, api.Run{From: 138, To: 139})},
		{Change: changes(t, 1, []int{137, 138, 139, 8000}, 16522), Sync: true},
		{Change: holes(t, 1, api.Run{From: 10, To: 138}, api.Run{From: 0, To: 1}), Abort: true, Sync: true},
		{Change: holes(t, 1, api.Run{From: 10, To: 138}, api.Run{From: 0, To: 1})},
		{Change: changes(t, 2, []int{0, 11}, 300)},
		{Change: changes(t, 2, nil, 0)},
		{Change: changes(t, 2, []int{5, 12, 16520}, 16522), Sync: true},
		{Change: changes(t, 1, nil, 100)},
		{Change: changes(t, 1, []int{394, 393}, 16522), Sync: true},
		{Change: changes(t, 1, nil, 0)},
	}
}

// cuts begins the steps on a store with two files, committed and home.
func cuts(t *testing.T) *trial.Cuts[*span.Map, sight] {
	t.Helper()
	d, s, m := fresh(t, small, 2)
	is(t, "Abort", m.Abort(), api.OK)
	is(t, "Checkpoint", s.Checkpoint(), api.OK)
	return &trial.Cuts[*span.Map, sight]{
		T:     t,
		Image: d.Image(),
		On:    on,
		Tell:  func(m *span.Map) sight { return sightOf(t, m) },
		Dead:  func(m *span.Map) { asks(t, m, api.ErrDead) },
		Steps: steps(t),
	}
}

// The power is cut at every call of the steps, with many picks.
func TestP808EveryCut(t *testing.T) {
	t.Parallel()
	if count := cuts(t).Every(); count < 400 {
		t.Errorf("%d cuts are few", count)
	}
}

// A transaction that is open when the power goes was never.
func TestP808Open(t *testing.T) { cuts(t).Within() }
