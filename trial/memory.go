package trial

import (
	"maps"

	"vellum/api"
	"vellum/disk"
	"vellum/store"
)

// Memory remembers what a view should tell, through transactions, aborts and cuts.
type Memory[V View, K, S comparable] struct {
	T    T
	Dice *Dice
	On   func(tx *store.Tx) V
	View V
	Now  map[K]S // what the view should tell
	home map[K]S // what the last Commit left
	d    *disk.Disk
	s    *store.Store
}

// Start begins on a store of which nothing is to be remembered yet.
func (m *Memory[V, K, S]) Start(d *disk.Disk, s *store.Store) {
	m.T.Helper()
	m.d, m.s = d, s
	m.Now, m.home = map[K]S{}, map[K]S{}
	m.View = m.On(Begun(m.T, s))
}

// Commit ends the transaction and begins another.
func (m *Memory[V, K, S]) Commit() {
	m.T.Helper()
	Is(m.T, "Commit", m.View.Commit(), api.OK)
	m.home = maps.Clone(m.Now)
	m.View = m.On(Begun(m.T, m.s))
}

// Abort ends the transaction and begins another: nothing of it was.
func (m *Memory[V, K, S]) Abort() {
	m.T.Helper()
	Is(m.T, "Abort", m.View.Abort(), api.OK)
	m.Now = maps.Clone(m.home)
	m.View = m.On(Begun(m.T, m.s))
}

// Let says whether a call was let through; where there was no room for it the transaction is aborted.
func (m *Memory[V, K, S]) Let(what string, e api.Errno) bool {
	m.T.Helper()
	if e == api.ErrNoSpace || e == api.ErrBudget || e == api.ErrNoNodes {
		m.Abort()
		return false
	}
	Is(m.T, what, e, api.OK)
	return true
}

// Cut takes the power away behind a Sync, which lets go what is not committed.
func (m *Memory[V, K, S]) Cut() {
	m.T.Helper()
	if m.Dice.Below(2) == 0 {
		Is(m.T, "Checkpoint", m.s.Checkpoint(), api.OK)
	} else {
		Is(m.T, "Sync", m.s.Sync(), api.OK)
	}
	m.d.Crash([]api.Pick{One(m.Dice, Keep(), Lose(), Tear(m.Dice.Below(512)))})
	m.s = Opened(m.T, m.d)
	m.Now = maps.Clone(m.home)
	m.View = m.On(Begun(m.T, m.s))
}

// Unsaved counts what is not as the last Commit left it.
func (m *Memory[V, K, S]) Unsaved() int {
	count := 0
	for key, state := range m.Now {
		if was, held := m.home[key]; !held || was != state {
			count++
		}
	}
	for key := range m.home {
		if _, held := m.Now[key]; !held {
			count++
		}
	}
	return count
}
