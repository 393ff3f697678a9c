package dir_test

import (
	"fmt"
	"testing"

	"vellum/api"
	"vellum/dir"
	"vellum/trial"
)

// sightOf is what a store with two directories tells of them, and how many blocks are free.
func sightOf(t *testing.T, k *dir.Dirs) string {
	t.Helper()
	told := fmt.Sprint(left(t, k))
	for number := 1; number <= 2; number++ {
		n, e := k.Load(number)
		is(t, "Load", e, api.OK)
		list, e := k.List(number)
		is(t, "List", e, api.OK)
		told += fmt.Sprintf(" %+v %+v", n, list)
	}
	return told
}

// all makes calls, each of which is let through.
func all(t *testing.T, calls ...func(k *dir.Dirs) api.Errno) func(*dir.Dirs) {
	return func(k *dir.Dirs) {
		t.Helper()
		for _, call := range calls {
			is(t, "a call", call(k), api.OK)
		}
	}
}

// many adds so many names to a directory.
func many(number, count int) func(k *dir.Dirs) api.Errno {
	return func(k *dir.Dirs) api.Errno {
		for _, name := range numbered(count) {
			if e := k.Add(number, name, 2, 1); e != api.OK {
				return e
			}
		}
		return api.OK
	}
}

// steps are transactions of which no two of the sights between are alike, those of the aborted ones neither.
func steps(t *testing.T) []trial.Step[*dir.Dirs] {
	return []trial.Step[*dir.Dirs]{
		{Change: all(t, adding(1, "a", 2, api.KDir), adding(2, "b", 3, api.KFile)), Sync: true},
		{Change: all(t, deleting(1, "a")), Abort: true},
		{Change: all(t, many(1, 9))},
		{Change: all(t, swapping(1, "a", 5, api.KLink), deleting(2, "b"))},
		{Change: all(t, adding(2, "c", 3, 1), deleting(1, "3")), Abort: true, Sync: true},
		{Change: all(t, deleting(1, "3"), adding(2, "3", 2, 1)), Sync: true}, // from one to the other
		{Change: all(t, deleting(1, "7"), deleting(1, "8"))},                 // the last block goes
		{Change: all(t, adding(1, "x", 1, 1), swapping(2, "3", 4, 3))},
		{Change: all(t, many(2, 3), swapping(1, "x", 6, 2)), Abort: true},
		{Change: all(t, adding(2, "y", 1, 1), adding(1, "y", 1, 1)), Sync: true},
		{Change: all(t, deleting(2, "3"), deleting(2, "y"), deleting(1, "a"))},
		{Change: all(t, many(2, 17))},
	}
}

// cuts begins the steps on a store with two directories, committed and home.
func cuts(t *testing.T) *trial.Cuts[*dir.Dirs, string] {
	t.Helper()
	d, s, k := fresh(t, small, api.KDir, api.KDir)
	is(t, "Abort", k.Abort(), api.OK)
	is(t, "Checkpoint", s.Checkpoint(), api.OK)
	return &trial.Cuts[*dir.Dirs, string]{
		T:     t,
		Image: d.Image(),
		On:    on,
		Tell:  func(k *dir.Dirs) string { return sightOf(t, k) },
		Dead:  func(k *dir.Dirs) { asks(t, k, api.ErrDead) },
		Steps: steps(t),
	}
}

// The power is cut at every call of the steps, with many picks.
func TestP1009EveryCut(t *testing.T) {
	t.Parallel()
	if count := cuts(t).Every(); count < 300 {
		t.Errorf("%d cuts are few", count)
	}
}

// A transaction that is open when the power goes was never.
func TestP1009Open(t *testing.T) { cuts(t).Within() }
