package trial

import (
	"slices"

	"vellum/api"
	"vellum/disk"
	"vellum/store"
)

// Call is a call of a view, what it answers, and the blocks that it puts if there is room for them.
type Call[V View] struct {
	What string
	Puts []int
	Do   func(V) api.Errno
	Want api.Errno
}

// Puts are calls, each of which is made on a store of its own.
type Puts[V View] struct {
	T       T
	Ready   func() (*disk.Disk, *store.Store, V) // a store, and a view on a transaction that has put nothing
	Others  []int                                // blocks that no call puts or looks at: more than 16
	Refused func(v V, want api.Errno)            // asks that the view, whose transaction is spoilt, refuses all its calls
	Calls   []Call[V]
}

// Blocks asks that each call puts the blocks that are said, and no other; that none writes to the disk ahead of Commit; and that a Commit of what put nothing writes nothing.
func (p *Puts[V]) Blocks() {
	p.T.Helper()
	for _, c := range p.Calls {
		d, _, v := p.Ready()
		was, counts := Blocks(p.T, v), d.Counts()
		Is(p.T, c.What, c.Do(v), c.Want)
		if list := Unlike(was, Blocks(p.T, v)); !slices.Equal(list, c.Puts) {
			p.T.Fatalf("%s has changed the blocks %v, want %v", c.What, list, c.Puts)
		}
		now := d.Counts()
		if now.Reads = counts.Reads; now != counts {
			p.T.Fatalf("%s has asked the disk %+v, before %+v", c.What, now, counts)
		}
		Is(p.T, "Commit", v.Commit(), api.OK)
		if wrote := d.Counts().Writes > counts.Writes; wrote != (c.Puts != nil) {
			p.T.Fatalf("%s, then Commit: %v writes", c.What, d.Counts().Writes-counts.Writes)
		}
	}
}

// Budget asks that each call, where so many blocks were put before it, is let through or refused with ErrBudget; the errors that it has otherwise go ahead.
func (p *Puts[V]) Budget() {
	p.T.Helper()
	for _, c := range p.Calls {
		for others := api.MaxTx - len(c.Puts) - 1; others <= api.MaxTx; others++ {
			p.budget(c, others)
		}
	}
}

func (p *Puts[V]) budget(c Call[V], others int) {
	p.T.Helper()
	_, s, v := p.Ready()
	was := Blocks(p.T, v)
	for _, b := range p.Others[:others] {
		Is(p.T, "Put", v.Put(b, Fill('z')), api.OK)
	}
	if c.Puts == nil || others+len(c.Puts) <= api.MaxTx {
		Is(p.T, c.What, c.Do(v), c.Want)
		p.room(v, c.What, p.Others[others:], api.MaxTx-others-len(c.Puts))
		return
	}
	Is(p.T, c.What, c.Do(v), api.ErrBudget)
	p.Refused(v, api.ErrBudget)
	Is(p.T, "Commit", v.Commit(), api.ErrBudget)
	Is(p.T, "Abort", v.Abort(), api.OK)
	if list := Unlike(was, Blocks(p.T, Begun(p.T, s))); list != nil {
		p.T.Fatalf("%s without room has changed %v", c.What, list)
	}
}

// room asks that just so many of these blocks can be put.
func (p *Puts[V]) room(v V, what string, blocks []int, room int) {
	p.T.Helper()
	for _, b := range blocks[:room] {
		Is(p.T, what+", then Put", v.Put(b, Fill('y')), api.OK)
	}
	Is(p.T, what+", then a Put too many", v.Put(blocks[room], Fill('y')), api.ErrBudget)
}
