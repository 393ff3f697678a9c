package walk_test

import (
	"testing"

	"vellum/api"
	"vellum/disk"
	"vellum/store"
	"vellum/trial"
	"vellum/walk"
)

func resolving(path string) func(w *walk.Walk) api.Errno {
	return func(w *walk.Walk) api.Errno { _, e := w.Resolve(path, true); return e }
}

func insiding(number, in int) func(w *walk.Walk) api.Errno {
	return func(w *walk.Walk) api.Errno { _, e := w.Inside(number, in); return e }
}

func pathing(number int) func(w *walk.Walk) api.Errno {
	return func(w *walk.Walk) api.Errno { _, e := w.Path(number); return e }
}

var calls = []trial.Call[*walk.Walk]{
	{What: "Resolve", Do: resolving("/d/f")},
	{What: "Resolve of the root", Do: resolving("/")},
	{What: "Resolve of a link", Do: resolving("/up/l")},
	{What: "Resolve of a link to none", Do: resolving("/gone")},
	{What: "Resolve of none", Do: resolving("/d/x")},
	{What: "Resolve through none", Do: resolving("/x/x"), Want: api.ErrNotFound},
	{What: "Resolve through a file", Do: resolving("/d/f/x"), Want: api.ErrNotDir},
	{What: "Resolve of a round", Do: resolving("/self"), Want: api.ErrLoop},
	{What: "Resolve of no path", Do: resolving("d"), Want: api.ErrPath},
	{What: "Inside", Do: insiding(2, 1)},
	{What: "Inside, and it is not", Do: insiding(1, 2)},
	{What: "Inside of a file", Do: insiding(2, 3), Want: api.ErrNotDir},
	{What: "Path", Do: pathing(2)},
	{What: "Path of none", Do: pathing(8), Want: api.ErrNode},
}

// None of the calls puts a block, so all of them go on where no more can be put; none writes to the disk.
func TestP1102PutsNothing(t *testing.T) {
	p := &trial.Puts[*walk.Walk]{
		T:       t,
		Ready:   func() (*disk.Disk, *store.Store, *walk.Walk) { r := sample(t); return r.d, r.s, r.Walk },
		Refused: func(w *walk.Walk, want api.Errno) { asks(t, w, want) },
		Calls:   calls,
	}
	for b := 20; b < 43; b++ { // behind the blocks that are taken
		p.Others = append(p.Others, b)
	}
	p.Blocks()
	p.Budget()
}
