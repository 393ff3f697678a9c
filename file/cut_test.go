package file_test

import (
	"testing"

	"vellum/api"
	"vellum/file"
	"vellum/trial"
)

// sight is what a store with two files tells of them: the nodes, what lies where the steps change something, and how many blocks are free.
type sight struct {
	nodes     [2]api.Node
	near, far [2]string
	free      int
}

func sightOf(t *testing.T, f *file.Files) sight {
	t.Helper()
	told := sight{free: left(t, f)}
	owned := 0
	for i := range told.nodes {
		told.nodes[i] = load(t, f, i+1)
		told.near[i], told.far[i] = piece(t, f, i+1, 0, 8192), piece(t, f, i+1, 70000, 1000)
		owned += told.nodes[i].Owned
	}
	if told.free+owned != 40 {
		t.Fatalf("P903: %d blocks are free, and %d are owned", told.free, owned)
	}
	return told
}

func piece(t *testing.T, f *file.Files, number, off, n int) string {
	t.Helper()
	data, e := f.ReadAt(number, off, n)
	is(t, "ReadAt", e, api.OK)
	return string(data)
}

// all makes calls, each of which is let through.
func all(t *testing.T, calls ...func(f *file.Files) api.Errno) func(*file.Files) {
	return func(f *file.Files) {
		t.Helper()
		for _, call := range calls {
			is(t, "a call", call(f), api.OK)
		}
	}
}

// steps are transactions of which no two of the sights between are alike, those of the aborted ones neither.
func steps(t *testing.T) []trial.Step[*file.Files] {
	return []trial.Step[*file.Files]{
		{Change: all(t, writing(1, 0, "hello"), writing(2, 500, step[:100])), Sync: true},
		{Change: all(t, writing(1, 1, "EL")), Abort: true},
		{Change: all(t, writing(1, 6000, "far"), writing(1, 510, "abcd"))},
		{Change: all(t, resizing(1, 3), resizing(2, 0)), Abort: true},
		{Change: all(t, wiping(2, 510, 20))},
		{Change: all(t, resizing(1, 3), resizing(1, 600)), Sync: true},
		{Change: all(t, wiping(1, 0, 600)), Abort: true, Sync: true},
		{Change: all(t, writing(2, 4096, step), resizing(2, 5000))},
		{Change: all(t, wiping(2, 4096, 600), writing(1, 70600, "over the seam of it"))},
		{Change: all(t, writing(2, 4095, "y"))},
		{Change: all(t, resizing(1, 70655), resizing(1, 70700)), Sync: true},
		{Change: all(t, writing(1, 70660, "back"), wiping(1, 0, 3))},
		{Change: all(t, resizing(2, 0), writing(2, 3, "new")), Sync: true},
		{Change: all(t, wiping(1, 0, 99999))},
	}
}

// cuts begins the steps on a store with two files, committed and home.
func cuts(t *testing.T) *trial.Cuts[*file.Files, sight] {
	t.Helper()
	d, s, f := fresh(t, small, 2)
	is(t, "Abort", f.Abort(), api.OK)
	is(t, "Checkpoint", s.Checkpoint(), api.OK)
	return &trial.Cuts[*file.Files, sight]{
		T:     t,
		Image: d.Image(),
		On:    on,
		Tell:  func(f *file.Files) sight { return sightOf(t, f) },
		Dead:  func(f *file.Files) { asks(t, f, api.ErrDead) },
		Steps: steps(t),
	}
}

// The power is cut at every call of the steps, with many picks.
func TestP902EveryCut(t *testing.T) {
	t.Parallel()
	if count := cuts(t).Every(); count < 400 {
		t.Errorf("%d cuts are few", count)
	}
}

// A transaction that is open when the power goes was never.
func TestP902Open(t *testing.T) { cuts(t).Within() }
