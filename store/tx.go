package store

import (
	"vellum/api"
	"vellum/redo"
)

// Tx is a transaction of a store.
type Tx struct {
	store  *Store
	puts   redo.Changes
	spoilt api.Errno // OK, or why its calls are refused till it is aborted
	ended  bool
}

// Layout tells where things lie.
func (t *Tx) Layout() api.Layout { return t.store.layout }

// State tells what keeps the transaction from going on: OK, or why its calls are refused.
func (t *Tx) State() api.Errno {
	if e := t.over(); e != api.OK {
		return e
	}
	return t.spoilt
}

// over is what even Abort is refused by.
func (t *Tx) over() api.Errno {
	switch {
	case t.store.dead():
		return api.ErrDead
	case t.ended:
		return api.ErrEnded
	}
	return api.OK
}

// Spoil lets the transaction's calls be refused from now on.
func (t *Tx) Spoil(e api.Errno) api.Errno {
	if state := t.State(); state != api.OK {
		return state
	}
	switch e {
	case api.ErrCorrupt, api.ErrBudget, api.ErrNoSpace, api.ErrNoNodes:
		t.spoilt = e
		return e
	}
	return api.ErrArg
}

// Get tells a block as the transaction sees it.
func (t *Tx) Get(block int) ([]byte, api.Errno) {
	if e := t.refusal(block); e != api.OK {
		return nil, e
	}
	c, e := t.sees(block)
	if e != api.OK {
		return nil, e
	}
	return c[:], api.OK
}

// Put gives a block a new content.
func (t *Tx) Put(block int, data []byte) api.Errno {
	if e := t.refusal(block); e != api.OK {
		return e
	}
	if len(data) != api.Size {
		return api.ErrLength
	}
	c := redo.Content(data)
	was, e := t.sees(block)
	if e != api.OK {
		return e
	}
	if c == was {
		return api.OK
	}
	if _, again := t.puts[block]; !again && len(t.puts) == api.MaxTx {
		return t.Spoil(api.ErrBudget)
	}
	t.puts[block] = c
	return api.OK
}

// refusal says why the transaction has nothing to do with that block.
func (t *Tx) refusal(block int) api.Errno {
	if e := t.State(); e != api.OK {
		return e
	}
	if block < 0 || block >= t.store.layout.Blocks {
		return api.ErrRange
	}
	return api.OK
}

func (t *Tx) sees(block int) (redo.Content, api.Errno) {
	if c, put := t.puts[block]; put {
		return c, api.OK
	}
	return t.store.committed(block)
}

// Commit ends the transaction: all of it is to last.
func (t *Tx) Commit() api.Errno {
	if e := t.State(); e != api.OK {
		return e
	}
	c, e := t.changed()
	if e != api.OK {
		return e
	}
	if len(c) > 0 {
		if e := t.store.commit(c); e != api.OK {
			return e
		}
	}
	t.end()
	return api.OK
}

// changed leaves out what was put and then put back.
func (t *Tx) changed() (redo.Changes, api.Errno) {
	changed := redo.Changes{}
	for block, c := range t.puts {
		was, e := t.store.committed(block)
		if e != api.OK {
			return nil, e
		}
		if c != was {
			changed[block] = c
		}
	}
	return changed, api.OK
}

// Abort ends the transaction: nothing of it was.
func (t *Tx) Abort() api.Errno {
	if e := t.over(); e != api.OK {
		return e
	}
	t.end()
	return api.OK
}

func (t *Tx) end() {
	clear(t.puts)
	t.ended = true
	t.store.busy = false
}
