package serve_test

import (
	"strconv"
	"testing"

	"vellum/api"
	"vellum/site"
)

// ring has so many sessions, of which each holds a file of its own alone, from byte 0 on: session s that of handle s + 1.
func ring(t *testing.T, sessions int) *room {
	t.Helper()
	r := newRoom(t, sessions)
	for s := range sessions {
		r.All(site.Create("/f" + strconv.Itoa(s)))
	}
	for s := range sessions {
		for file := range sessions {
			r.does(s, open("/f"+strconv.Itoa(file), both), api.OK, file+1)
		}
		r.does(s, lock(s+1, 0, 0, alone), api.OK, 0)
	}
	return r
}

// A session that can't have a lock waits with the call, turn after turn, and no turn is counted; what it asked behind that is not done.
func TestP2004(t *testing.T) {
	r := newRoom(t, 2)
	r.openBoth(2)
	r.does(0, lock(1, 0, 4, shared), api.OK, 0)
	r.waits(1, lock(1, 0, 4, alone))
	r.asks(1, write(1, "x"))
	for range 5 {
		r.Unchanged("P2005: a turn of one who waits", func() { r.refuses(1, api.ErrWaits) })
		r.locked(api.Lock{Node: 2, From: 0, To: 4, Mode: shared})
	}
	r.does(0, unlock(1, 0, 2), api.OK, 0)
	r.refuses(1, api.ErrWaits)
	r.does(0, unlock(1, 2, 2), api.OK, 0)
	r.locked() // it has no lock ahead of its turn
	r.turns(1, 8, api.Reply{})
	r.locked(api.Lock{Node: 2, From: 0, To: 4, Mode: alone, Session: 1})
	r.turns(1, 9, api.Reply{N: 1})
}

// Who waits has no right to a lock ahead of others: who has the next turn has it, and who waited waits for that one then.
func TestP2004Others(t *testing.T) {
	r := newRoom(t, 3)
	r.openBoth(3)
	r.does(0, lock(1, 0, 4, alone), api.OK, 0)
	r.waits(1, lock(1, 0, 4, alone))
	r.does(2, lock(2, 0, 4, alone), api.OK, 0)
	r.does(0, unlock(1, 0, 4), api.OK, 0)
	r.does(2, lock(1, 3, 1, shared), api.OK, 0)
	r.refuses(1, api.ErrWaits)
	r.does(0, lock(2, 9, 1, alone), api.OK, 0)
	r.does(0, lock(1, 3, 1, shared), api.OK, 0) // from here on it waits for two
	r.does(2, shut(1), api.OK, 0)
	r.refuses(1, api.ErrWaits)
	r.does(0, shut(1), api.OK, 0)
	r.goesOn(1, api.OK, 0)
}

// It waits for whom it would wait now: 1 waited for 0, and then for 2, which may not wait for 1; 0 may.
func TestP2005Now(t *testing.T) {
	r := ring(t, 3)
	r.waits(1, lock(1, 0, 1, alone))
	r.does(0, unlock(1, 0, 0), api.OK, 0)
	r.does(2, lock(1, 0, 1, shared), api.OK, 0)
	r.does(2, lock(2, 0, 1, shared), api.ErrDeadlock, 0) // though 1 has had no turn since
	r.waits(0, lock(2, 0, 1, shared))
	r.does(2, lock(2, 0, 1, shared), api.ErrDeadlock, 0)
	r.does(2, unlock(1, 0, 1), api.OK, 0)
	r.waits(2, lock(2, 0, 1, shared)) // 1 waits for nobody now, though it has not been told
	r.goesOn(1, api.OK, 0)
	r.does(1, lock(3, 0, 1, shared), api.ErrDeadlock, 0)
	r.does(1, unlock(2, 0, 0), api.OK, 0)
	r.goesOn(0, api.OK, 0)
	r.goesOn(2, api.OK, 0)
}

// In a ring of any number the last one is told; it has not waited, and may go on. Whoever leaves a ring open may wait.
func TestP2005Ring(t *testing.T) {
	for n := 2; n <= api.MaxSessions; n++ {
		r := ring(t, n)
		for s := range n - 1 {
			r.waits(s, lock(s+2, 5, 1, shared))
		}
		last := n - 1
		for file := range n - 1 {
			r.does(last, try(file+1, 7, 1, alone), api.ErrBusy, 0)
			r.does(last, lock(file+1, 7, 1, alone), api.ErrDeadlock, 0)
		}
		was := r.h.Locks()
		r.refuses(0, api.ErrWaits)
		r.does(last, unlock(last+1, 0, 0), api.OK, 0)
		for s := n - 2; s >= 0; s-- {
			r.goesOn(s, api.OK, 0)
			r.does(s, unlock(s+1, 0, 0), api.OK, 0)
		}
		if got := r.h.Locks(); len(was) != n || len(got) != n-1 {
			t.Errorf("P2005: %v, and then %v", was, got)
		}
	}
}

// Of several for whom it would wait one is enough, whichever holds its lock first.
func TestP2005Several(t *testing.T) {
	for which := range 3 {
		r := newRoom(t, 4)
		r.openBoth(4)
		for s := range 3 {
			r.does(s, lock(1, s, 1, shared), api.OK, 0)
		}
		r.does(3, lock(2, 0, 0, alone), api.OK, 0)
		r.waits(which, lock(2, 3, 1, shared))
		r.does(3, lock(1, 0, 0, alone), api.ErrDeadlock, 0)
		r.does(3, lock(1, which, 1, alone), api.ErrDeadlock, 0)
		r.does(3, lock(1, which, 1, shared), api.OK, 0)
		next, other := (which+1)%3, (which+2)%3
		r.waits(3, lock(1, next, 1, alone))
		r.does(next, lock(1, which, 1, alone), api.ErrDeadlock, 0) // 3 has it too by now
		r.waits(other, lock(1, which, 1, alone))
	}
}

// Whoever waits is no end of the way: over several ways, and others that wait for nobody here, the one is found that leads back.
func TestP2005Ways(t *testing.T) {
	r := ring(t, 6)
	r.does(3, unlock(4, 0, 0), api.OK, 0)
	for s := range 3 {
		r.does(s, lock(4, s, 1, shared), api.OK, 0) // file 4 has three that share it
	}
	r.waits(0, lock(5, 0, 1, alone)) // 0 waits for 4
	r.waits(3, lock(4, 0, 0, alone)) // 3 waits for 0, 1, 2
	r.waits(4, lock(6, 0, 1, alone)) // 4 waits for 5
	r.does(5, lock(1, 0, 1, alone), api.ErrDeadlock, 0)
	r.does(5, lock(5, 0, 1, alone), api.ErrDeadlock, 0)
	r.waits(5, lock(2, 0, 1, alone)) // 1 waits for nobody
	r.does(1, lock(5, 0, 1, alone), api.ErrDeadlock, 0)
	r.does(1, lock(1, 0, 1, alone), api.ErrDeadlock, 0)
	r.waits(2, lock(2, 0, 1, alone))
	r.does(1, lock(3, 0, 1, alone), api.ErrDeadlock, 0)
	r.does(1, unlock(2, 0, 0), api.OK, 0)
	r.goesOn(5, api.OK, 0)
	r.refuses(2, api.ErrWaits) // for 5 now
	r.waits(1, lock(3, 0, 1, alone))
}
