package dir_test

import (
	"testing"

	"vellum/api"
	"vellum/dir"
	"vellum/disk"
	"vellum/store"
	"vellum/trial"
)

func looking(number int, name string) func(k *dir.Dirs) api.Errno {
	return func(k *dir.Dirs) api.Errno { _, e := k.Look(number, name); return e }
}

func listing(number int) func(k *dir.Dirs) api.Errno {
	return func(k *dir.Dirs) api.Errno { _, e := k.List(number); return e }
}

func adding(number int, name string, named, kind int) func(k *dir.Dirs) api.Errno {
	return func(k *dir.Dirs) api.Errno { return k.Add(number, name, named, kind) }
}

func deleting(number int, name string) func(k *dir.Dirs) api.Errno {
	return func(k *dir.Dirs) api.Errno { return k.Del(number, name) }
}

func swapping(number int, name string, named, kind int) func(k *dir.Dirs) api.Errno {
	return func(k *dir.Dirs) api.Errno { return k.Swap(number, name, named, kind) }
}

// ready is a store with a directory at each number but 6, which is a file; nodes 1 to 4 stand in block 2, the others in block 3.
//   - 1 has no entry.
//   - 2 has eight, in block 4.
//   - 3 has nine, in the blocks 5 and 6.
//   - 4 has two, in block 7.
//   - 5 has "0" in block 8, none in block 9, and "16" in block 10.
//   - 7 has a hole at index 0, and "8" in block 11.
//   - 8 has 81: 80 in the blocks 12 to 21, one in block 23, behind the single block 22.
func ready(t *testing.T) (*disk.Disk, *store.Store, *dir.Dirs) {
	t.Helper()
	d, s, k := fresh(t, small, api.KDir, api.KDir, api.KDir, api.KDir, api.KDir, api.KFile, api.KDir, api.KDir)
	for number, count := range []int{2: 8, 3: 9, 4: 2, 5: 17} {
		k = laid(t, s, k, number, count)
	}
	lay(t, k, 7, 512, append(record(t, laidEntry(8)), make([]byte, 448)...))
	k = laid(t, s, next(t, s, k), 8, 81)
	for slot := 1; slot < 16; slot++ {
		dels(t, k, 5, laidEntry(slot).Name, api.OK)
	}
	return d, s, trial.Filled(t, s, next(t, s, k), 24, on)
}

var calls = []trial.Call[*dir.Dirs]{
	{What: "Look", Do: looking(4, "1")},
	{What: "Look for none", Do: looking(4, "2"), Want: api.ErrNotFound},
	{What: "List", Do: listing(8)},
	{What: "Add to none", Puts: []int{0, 2, 24}, Do: adding(1, "a", 1, 1)},
	{What: "Add to a block", Puts: []int{7}, Do: adding(4, "a", 1, 1)},
	{What: "Add to a full block", Puts: []int{0, 2, 24}, Do: adding(2, "a", 1, 1)},
	{What: "Add to the last block", Puts: []int{6}, Do: adding(3, "a", 1, 1)},
	{What: "Add to the first block", Puts: []int{8}, Do: adding(5, "a", 1, 1)},
	{What: "Add in a hole", Puts: []int{0, 3, 24}, Do: adding(7, "a", 1, 1)},
	{What: "Add behind the single block", Puts: []int{23}, Do: adding(8, "a", 1, 1)},
	{What: "Add of what is there", Do: adding(4, "1", 8, 1), Want: api.ErrExists},
	{What: "Add of just what is there", Do: adding(4, "1", 2, 2), Want: api.ErrExists},
	{What: "Del of one of two", Puts: []int{7}, Do: deleting(4, "0")},
	{What: "Del of the last slot", Puts: []int{7}, Do: deleting(4, "1")},
	{What: "Del of a last block", Puts: []int{0, 2, 6}, Do: deleting(3, "8")},
	{What: "Del in a block ahead of it", Puts: []int{5}, Do: deleting(3, "3")},
	{What: "Del of two last blocks", Puts: []int{0, 3, 10}, Do: deleting(5, "16")},
	{What: "Del of all of a block ahead of it", Puts: []int{8}, Do: deleting(5, "0")},
	{What: "Del behind a hole", Puts: []int{0, 3, 11}, Do: deleting(7, "8")},
	{What: "Del of the single block", Puts: []int{0, 3, 23}, Do: deleting(8, "80")},
	{What: "Del of none", Do: deleting(8, "81"), Want: api.ErrNotFound},
	{What: "Swap", Puts: []int{7}, Do: swapping(4, "1", 8, 1)},
	{What: "Swap of the kind", Puts: []int{7}, Do: swapping(4, "1", 2, 3)},
	{What: "Swap for the same", Do: swapping(4, "1", 2, 2)},
	{What: "Swap behind the single block", Puts: []int{23}, Do: swapping(8, "80", 7, 1)},
	{What: "Swap of none", Do: swapping(4, "2", 2, 2), Want: api.ErrNotFound},
	{What: "Look in a file", Do: looking(6, "a"), Want: api.ErrNotDir},
	{What: "Add to a file", Do: adding(6, "a", 1, 1), Want: api.ErrNotDir},
	{What: "Del in a file", Do: deleting(6, "a"), Want: api.ErrNotDir},
	{What: "Swap in a file", Do: swapping(6, "a", 1, 1), Want: api.ErrNotDir},
	{What: "List of a file", Do: listing(6), Want: api.ErrNotDir},
	{What: "Add of no name", Do: adding(1, "/", 1, 1), Want: api.ErrName},
	{What: "Add of no node", Do: adding(1, "a", 9, 1), Want: api.ErrRange},
	{What: "Swap of no kind", Do: swapping(4, "1", 1, 4), Want: api.ErrArg},
}

func putting(t *testing.T) *trial.Puts[*dir.Dirs] {
	p := &trial.Puts[*dir.Dirs]{
		T:       t,
		Ready:   func() (*disk.Disk, *store.Store, *dir.Dirs) { return ready(t) },
		Refused: func(k *dir.Dirs, want api.Errno) { asks(t, k, want) },
		Calls:   calls,
	}
	for b := 26; b < 43; b++ { // behind the blocks that may be taken
		p.Others = append(p.Others, b)
	}
	return p
}

func TestP1008Puts(t *testing.T)   { putting(t).Blocks() }
func TestP1008Budget(t *testing.T) { putting(t).Budget() }

// A new last block behind the ten direct ones takes a single block besides.
func TestP1008Single(t *testing.T) {
	_, s, k := fresh(t, small, api.KDir)
	k = laid(t, s, k, 1, 80)
	for others, want := range map[int]api.Errno{12: api.OK, 13: api.ErrBudget} {
		is(t, "Put", k.Put(14, fill('s')), api.OK) // where the two blocks are taken
		is(t, "Put", k.Put(15, fill('s')), api.OK)
		k = next(t, s, k)
		was := blocks(t, k)
		trial.PutMany(t, k, 20, others)
		adds(t, k, 1, "x", 2, 1, want)
		k = undone(t, s, k)
		if list := unlike(was, blocks(t, k)); list != nil {
			t.Fatalf("P7: behind the Abort %v are unlike", list)
		}
	}
}

// A Del that cannot cut off what it has emptied has emptied nothing.
func TestP1008HalfDone(t *testing.T) {
	_, s, k := ready(t)
	trial.PutMany(t, k, 26, 15)
	dels(t, k, 3, "8", api.ErrBudget) // the slot's block is the sixteenth
	k = undone(t, s, k)
	looks(t, k, 3, "8", laidEntry(8), api.OK)
	stat(t, k, 3, 1024, 2)
}
