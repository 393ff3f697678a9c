package check_test

import (
	"bytes"
	"math"
	"runtime"
	"slices"
	"testing"
	"time"

	"vellum/api"
	"vellum/check"
	"vellum/disk"
	"vellum/store"
	"vellum/trial"
)

var (
	tiny    = api.Super{Sectors: 64, Log: 18, Nodes: 4}   // Blocks 43, Data 3
	small   = api.Super{Sectors: 64, Log: 18, Nodes: 8}   // Blocks 43, Data 4
	least   = api.Super{Sectors: 25, Log: 18, Nodes: 4}   // Blocks 4, Data 3
	wide    = api.Super{Sectors: 256, Log: 18, Nodes: 32} // Blocks 235, Data 10
	cramped = api.Super{Sectors: 64, Log: 18, Nodes: 32}  // Blocks 43, Data 10
	large   = api.Super{Sectors: 2048, Log: 18, Nodes: 1024}
)

// is is short for what the tests of all packages share.
var is = trial.Is

// plate is the blocks of an image, as they are to be laid on a disk.
type plate struct {
	*trial.Plate
	t *testing.T
}

func zeros(t *testing.T, form api.Super) *plate {
	t.Helper()
	return &plate{trial.Zeros(t, form), t}
}

func rooted(t *testing.T, form api.Super) *plate {
	t.Helper()
	return &plate{trial.Rooted(t, form), t}
}

func sample(t *testing.T) *plate {
	t.Helper()
	return &plate{trial.Sample(t), t}
}

// again is another plate with the same bytes.
func (p *plate) again() *plate { return &plate{p.Again(), p.t} }

// begun is a transaction on a disk with the plate.
func (p *plate) begun() (*disk.Disk, *store.Store, *store.Tx) {
	p.t.Helper()
	d, s := trial.Laid(p.t, p.Form, p.Held)
	return d, s, trial.Begun(p.t, s)
}

// same says whether two reports are the same.
func same(a, b api.Report) bool {
	return a.Phase == b.Phase && slices.Equal(a.Faults, b.Faults) && a.Files == b.Files && a.Dirs == b.Dirs && a.Links == b.Links && a.Orphans == b.Orphans && a.Used == b.Used
}

// runs asks for a report, by every number of workers, and that it is had by few enough reads.
func (p *plate) runs(what string, want api.Report) {
	p.t.Helper()
	d, _, tx := p.begun()
	for workers := 1; workers <= 8; workers++ {
		p.asks(d, tx, workers, what, want)
	}
}

// asks asks for a report by so many workers.
func (p *plate) asks(d *disk.Disk, tx *store.Tx, workers int, what string, want api.Report) {
	p.t.Helper()
	was := d.Counts()
	got, e := check.Run(tx, workers)
	is(p.t, what, e, api.OK)
	if !same(got, want) {
		p.t.Fatalf("P1201: %s: Run by %d: %+v, want %+v", what, workers, got, want)
	}
	now := d.Counts()
	if reads := now.Reads - was.Reads; reads > 2*p.Blocks {
		p.t.Fatalf("P1201: %s: %d reads of %d blocks", what, reads, p.Blocks)
	}
	if now.Reads = was.Reads; now != was {
		p.t.Fatalf("P1202: %s: the disk was asked %+v, before %+v", what, now, was)
	}
}

func faulty(phase int, faults ...api.Fault) api.Report {
	return api.Report{Phase: phase, Faults: faults}
}

// second is the plate of the chapter's examples with a node 2 in block 3.
func second(t *testing.T, n api.Node) *plate {
	t.Helper()
	p := rooted(t, tiny)
	p.Born(2, n)
	p.Taken(3)
	return p
}

func TestP1201Examples(t *testing.T) {
	p := rooted(t, tiny)
	if p.Held[0][0] != 7 || p.Held[1][0] != 1 {
		t.Fatalf("the plate begins with %d and %d", p.Held[0][0], p.Held[1][0])
	}
	p.runs("example 1", api.Report{Dirs: 1})
	zeros(t, tiny).runs("example 2", faulty(1, api.Fault{Kind: api.FRoot, Node: 1}))
	p = rooted(t, tiny)
	p.Held[0][0] = 0
	p.runs("example 3", faulty(3, api.Fault{Kind: api.FBlockBit, Block: 0}, api.Fault{Kind: api.FBlockBit, Block: 1}, api.Fault{Kind: api.FBlockBit, Block: 2}))
	p = rooted(t, tiny)
	p.Turn(1, 4095)
	p.runs("example 4", faulty(3, api.Fault{Kind: api.FNodeBit, Node: 4096, Other: 1}))

	file := api.Node{Kind: api.KFile, Links: 1, Size: 10, Owned: 1, Direct: [10]int{3}}
	second(t, file).runs("example 5", faulty(5, api.Fault{Kind: api.FLinks, Node: 2}))
	file.Links = 0
	second(t, file).runs("example 5, an orphan", api.Report{Dirs: 1, Orphans: 1, Used: 1})
	file.Size = 0
	second(t, file).runs("example 6", faulty(2, api.Fault{Kind: api.FBeyond, Node: 2, Block: 3}))
	file.Owned = 2
	second(t, file).runs("example 6, owned", faulty(2, api.Fault{Kind: api.FBeyond, Node: 2, Block: 3}, api.Fault{Kind: api.FOwned, Node: 2, Other: 1}))
	file.Size, file.Owned, file.Direct[1] = 1000, 1, 3
	second(t, file).runs("example 7", faulty(2, api.Fault{Kind: api.FTwice, Node: 2, Index: 1, Block: 3}))
	file.Direct[1] = 43
	second(t, file).runs("example 7, out of range", faulty(2, api.Fault{Kind: api.FPointer, Node: 2, Index: 1, Block: 43}))

	p = second(t, api.Node{Kind: api.KDir, Links: 2, Parent: 2, Size: 512, Owned: 1, Direct: [10]int{3}})
	p.Entry(3, 0, api.Entry{Node: 2, Kind: api.KDir, Name: "x"})
	p.runs("example 8", faulty(5, api.Fault{Kind: api.FLinks, Node: 2, Other: 3}, api.Fault{Kind: api.FLoop, Node: 2}))
}

// refused asks that Run answers an error, and nothing beside it, whatever the number of workers is.
func refused(t *testing.T, what string, tx *store.Tx, workers []int, want api.Errno) {
	t.Helper()
	for _, w := range workers {
		r, e := check.Run(tx, w)
		is(t, what, e, want)
		if !same(r, api.Report{}) {
			t.Fatalf("P4: %s: %+v beside %v", what, r, e)
		}
	}
}

// A number of workers that may not be is told of faulty images too; the transaction's state goes ahead of it.
func TestP1201Errors(t *testing.T) {
	wrong := []int{0, 9, -1, math.MinInt, math.MaxInt}
	all := append(wrong, 1, 8)
	for _, p := range []*plate{rooted(t, tiny), zeros(t, tiny)} {
		d, _, tx := p.begun()
		refused(t, "wrong workers", tx, wrong, api.ErrWorkers)
		is(t, "State", tx.State(), api.OK)
		is(t, "Abort", tx.Abort(), api.OK)
		refused(t, "aborted", tx, all, api.ErrEnded)
		d.Take()
		refused(t, "dead", tx, all, api.ErrDead)
	}
	for _, e := range []api.Errno{api.ErrCorrupt, api.ErrBudget, api.ErrNoSpace, api.ErrNoNodes} {
		d, _, tx := rooted(t, tiny).begun()
		is(t, "Spoil", tx.Spoil(e), e)
		refused(t, "spoilt", tx, all, e)
		d.Fuse(0)
		is(t, "Flush", d.Flush(), api.ErrDead)
		refused(t, "burnt", tx, all, api.ErrDead)
	}
	_, _, tx := rooted(t, tiny).begun()
	is(t, "Commit", tx.Commit(), api.OK)
	refused(t, "committed", tx, all, api.ErrEnded)
}

// Run puts nothing, so it goes on where no more can be put; and what it is called on can put all that it could.
func TestP1202PutsNothing(t *testing.T) {
	running := func(workers int) func(tx *store.Tx) api.Errno {
		return func(tx *store.Tx) api.Errno { _, e := check.Run(tx, workers); return e }
	}
	for _, p := range []*plate{rooted(t, tiny), zeros(t, tiny), sample(t)} {
		puts := &trial.Puts[*store.Tx]{
			T:     t,
			Ready: p.begun,
			Calls: []trial.Call[*store.Tx]{
				{What: "Run by 1", Do: running(1)},
				{What: "Run by 8", Do: running(8)},
				{What: "Run by 9", Do: running(9), Want: api.ErrWorkers},
			},
		}
		for b := 20; b < 43; b++ { // behind the blocks that are owned
			puts.Others = append(puts.Others, b)
		}
		puts.Blocks()
		puts.Budget()
	}
}

// A transaction's own puts are seen, whether they mend the image or break it; behind its Abort they never were.
func TestP1201SeesPuts(t *testing.T) {
	p := sample(t)
	d, s, tx := p.begun()
	broken := slices.Clone(p.Held[2])
	broken[0]++
	is(t, "Put", tx.Put(2, broken), api.OK)
	p.asks(d, tx, 3, "broken", faulty(1, api.Fault{Kind: api.FNode, Node: 1}))
	is(t, "Put", tx.Put(2, p.Held[2]), api.OK)
	p.asks(d, tx, 3, "mended", sampleReport)
	is(t, "Put", tx.Put(2, broken), api.OK)
	is(t, "Abort", tx.Abort(), api.OK)
	tx = trial.Begun(t, s)
	p.asks(d, tx, 3, "aborted", sampleReport)
	is(t, "Put", tx.Put(2, broken), api.OK)
	is(t, "Commit", tx.Commit(), api.OK)
	tx = trial.Begun(t, s)
	p.asks(d, tx, 3, "committed", faulty(1, api.Fault{Kind: api.FNode, Node: 1}))
	for b, data := range trial.Blocks(t, tx) {
		if b != 2 && !bytes.Equal(data, p.Held[b]) {
			t.Errorf("P1202: block %d is another", b)
		}
	}
}

// The faults are new memory, their spare room too.
func TestP2Faults(t *testing.T) {
	p := rooted(t, tiny)
	p.Held[0] = trial.Fill(255)
	_, _, tx := p.begun()
	want, _ := check.Run(tx, 4)
	kept := slices.Clone(want.Faults)
	got, _ := check.Run(tx, 4)
	clear(got.Faults[:cap(got.Faults)])
	if !slices.Equal(want.Faults, kept) {
		t.Errorf("P2: two reports share their faults")
	}
}

// All goroutines have ended, whatever was found.
func TestP1201Ended(t *testing.T) {
	for _, p := range []*plate{sample(t), zeros(t, tiny), rooted(t, large)} {
		_, _, tx := p.begun()
		was := runtime.NumGoroutine()
		for range 50 {
			check.Run(tx, 8)
		}
		now := runtime.NumGoroutine()
		for i := 0; now > was && i < 3000; i++ { // one that has said that it is done may still be leaving
			time.Sleep(time.Millisecond)
			now = runtime.NumGoroutine()
		}
		if now > was {
			t.Errorf("P1201: %d goroutines, before %d", now, was)
		}
	}
}
