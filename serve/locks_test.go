package serve_test

import (
	"math"
	"testing"

	"vellum/api"
	"vellum/site"
	"vellum/trial"
)

// refusal is what a call for a lock is refused for by its arguments, in their order; OK, if by none. The handles: 1 reads and writes, 2 reads, 3 writes; no other is open.
func refusal(c api.Call) api.Errno {
	switch {
	case c.Handle < 1 || c.Handle > 3:
		return api.ErrHandle
	case c.Kind != 10 && c.Mode != 1 && c.Mode != 2:
		return api.ErrArg
	case c.Off < 0:
		return api.ErrArg
	case c.N < 0:
		return api.ErrArg
	case c.Off > 8459263 || c.N > 8459264-c.Off:
		return api.ErrBig
	case c.Kind != 10 && (c.Handle == 2 && c.Mode == 2 || c.Handle == 3 && c.Mode == 1):
		return api.ErrMode
	}
	return api.OK
}

// Every wrong argument with every other: the first of them is told, and nothing is changed.
func TestP2005P2006Arguments(t *testing.T) {
	r := newRoom(t, 1)
	r.does(0, open("/a", both), api.OK, 1)
	r.does(0, open("/a", mRead), api.OK, 2)
	r.does(0, open("/a", mWrite+mAppend+mEmpty), api.OK, 3)
	seen := map[api.Errno]int{}
	for _, kind := range []int{8, 9, 10} {
		for _, h := range []int{1, 2, 3, 4, 0, -1, 16, 17, 1<<32 + 1, math.MinInt, math.MaxInt} {
			for _, off := range []int{0, 5, maxFile - 1, maxFile, maxFile + 1, -1, math.MinInt, math.MaxInt} {
				for _, n := range []int{0, 1, maxFile - 5, maxFile - 4, maxFile, maxFile + 1, -1, math.MinInt, math.MaxInt} {
					for _, mode := range []int{1, 2, 0, 3, -1, 1<<32 + 1, math.MinInt} {
						c := api.Call{Kind: kind, Handle: h, Off: off, N: n, Mode: mode}
						want := refusal(c)
						r.does(0, c, want, 0)
						seen[want]++
						if want != api.OK || kind == 10 {
							r.locked()
							continue
						}
						l := api.Lock{Node: 2, From: off, To: off + n, Mode: mode}
						if n == 0 {
							l.To = maxFile
						}
						r.locked(l)
						r.does(0, unlock(1, 0, 0), api.OK, 0)
					}
				}
			}
		}
	}
	for _, e := range []api.Errno{api.OK, api.ErrHandle, api.ErrArg, api.ErrBig, api.ErrMode} {
		if seen[e] < 40 {
			t.Errorf("%v was asked for %d times", e, seen[e])
		}
	}
}

// By which modes of a handle which locks may be had.
func TestP2005Modes(t *testing.T) {
	for mode := range 64 {
		r := newRoom(t, 1)
		r.asks(0, open("/new", mode|mCreate))
		if a, _ := r.h.Turn(0); a.Reply.Err != api.OK {
			continue
		}
		want := map[int]api.Errno{shared: api.OK, alone: api.OK}
		if mode&mRead == 0 {
			want[shared] = api.ErrMode
		}
		if mode&mWrite == 0 {
			want[alone] = api.ErrMode
		}
		for m, e := range want {
			r.does(0, lock(1, 0, 9, m), e, 0)
			r.does(0, try(1, 20, 9, m), e, 0)
		}
		r.does(0, unlock(1, 0, 0), api.OK, 0)
		r.locked()
	}
}

// The mode by which a handle was opened is gone with it: the next one of that number has its own.
func TestP2005Again(t *testing.T) {
	r := newRoom(t, 1)
	r.does(0, open("/a", mRead), api.OK, 1)
	r.does(0, try(1, 0, 1, alone), api.ErrMode, 0)
	r.does(0, shut(1), api.OK, 0)
	r.does(0, try(1, 0, 1, shared), api.ErrHandle, 0)
	r.does(0, unlock(1, 0, 1), api.ErrHandle, 0)
	r.does(0, open("/b", mWrite), api.OK, 1)
	r.does(0, try(1, 0, 1, shared), api.ErrMode, 0)
	r.does(0, try(1, 0, 1, alone), api.OK, 0)
	r.locked(api.Lock{Node: 3, From: 0, To: 1, Mode: alone})
	r.does(0, open("/none", both), api.ErrNotFound, 0)
	r.does(0, try(2, 0, 1, alone), api.ErrHandle, 0)
}

const cells = 5 // bytes of which every state is gone through

// runs are the ranges of a row of modes, a byte each.
func runs(row [cells]int, node, session int) []api.Lock {
	var list []api.Lock
	for i, mode := range row {
		switch {
		case mode == 0:
		case i > 0 && row[i-1] == mode:
			list[len(list)-1].To++
		default:
			list = append(list, api.Lock{Node: node, From: i, To: i + 1, Mode: mode, Session: session})
		}
	}
	return list
}

// states are all rows of modes.
func states(yield func([cells]int) bool) {
	for n := range 243 {
		var row [cells]int
		for i := range row {
			row[i] = n % 3
			n /= 3
		}
		if !yield(row) {
			return
		}
	}
}

// ranges are all that begin and end within the row.
func ranges(yield func(from, to int) bool) {
	for from := range cells {
		for to := from + 1; to <= cells; to++ {
			if !yield(from, to) {
				return
			}
		}
	}
}

// lay lets a session hold a row of modes at a handle, and nothing else there.
func (r *room) lay(session, handle int, row [cells]int) {
	r.T.Helper()
	r.does(session, unlock(handle, 0, 0), api.OK, 0)
	for i, mode := range row {
		if mode > 0 {
			r.does(session, lock(handle, i, 1, mode), api.OK, 0)
		}
	}
}

// From every state every range is set to every mode, and taken out. What others hold, and what this one holds elsewhere, stays.
func TestP2003Every(t *testing.T) {
	t.Parallel()
	r := newRoom(t, 2)
	r.openBoth(2)
	r.does(1, lock(1, maxFile-9, 9, alone), api.OK, 0)
	r.does(0, lock(2, 1, 3, alone), api.OK, 0)
	for row := range states {
		for from, to := range ranges {
			for mode := range 3 {
				r.lay(0, 1, row)
				c := lock(1, from, to-from, mode)
				if mode == 0 {
					c = unlock(1, from, to-from)
				}
				r.does(0, c, api.OK, 0)
				now := row
				for i := from; i < to; i++ {
					now[i] = mode
				}
				want := append(runs(now, 2, 0), api.Lock{Node: 2, From: maxFile - 9, To: maxFile, Mode: alone, Session: 1}, api.Lock{Node: 3, From: 1, To: 4, Mode: alone})
				r.locked(want...)
			}
		}
	}
}

// Against every state of another session every range is tried in every mode.
func TestP2002Every(t *testing.T) {
	t.Parallel()
	r := newRoom(t, 2)
	r.openBoth(2)
	for row := range states {
		r.lay(1, 1, row)
		for from, to := range ranges {
			for mode := 1; mode <= 2; mode++ {
				want := api.OK
				for _, theirs := range row[from:to] {
					if theirs == alone || theirs == shared && mode == alone {
						want = api.ErrBusy
					}
				}
				r.does(0, try(2, from, to-from, mode), api.OK, 0) // another node
				r.does(0, try(1, from, to-from, mode), want, 0)
				if want == api.OK {
					r.does(0, lock(1, from, to-from, mode), api.OK, 0)
				} else {
					r.waits(0, lock(1, from, to-from, mode))
				}
				r.does(1, try(1, from, to-from, 2), busyIf(want == api.OK), 0) // its own locks are not in its way
				r.lay(1, 1, row)
				r.leaves(0)
				r.does(0, open("/a", both), api.OK, 1)
				r.does(0, open("/b", both), api.OK, 2)
			}
		}
	}
}

func busyIf(busy bool) api.Errno {
	if busy {
		return api.ErrBusy
	}
	return api.OK
}

// Ranges that touch share no byte: they do not conflict, of unlike sessions; of one session and one mode they are one.
func TestP2002Edges(t *testing.T) {
	r := newRoom(t, 2)
	r.openBoth(2)
	r.does(0, lock(1, 10, 10, alone), api.OK, 0)
	r.does(1, try(1, 0, 10, alone), api.OK, 0)
	r.does(1, try(1, 20, 0, alone), api.OK, 0)
	r.does(1, try(1, 0, 11, shared), api.ErrBusy, 0)
	r.does(1, try(1, 19, 1, shared), api.ErrBusy, 0)
	r.does(1, try(1, 15, 0, shared), api.ErrBusy, 0)
	r.does(1, try(1, 12, 3, shared), api.ErrBusy, 0)
	r.does(1, try(1, 0, 0, shared), api.ErrBusy, 0)
	r.does(0, unlock(1, 0, 0), api.OK, 0)
	r.locked(api.Lock{Node: 2, From: 0, To: 10, Mode: alone, Session: 1}, api.Lock{Node: 2, From: 20, To: maxFile, Mode: alone, Session: 1})
	r.does(1, lock(1, 10, 10, alone), api.OK, 0)
	r.locked(api.Lock{Node: 2, From: 0, To: maxFile, Mode: alone, Session: 1})
	r.does(1, unlock(1, maxFile-1, 1), api.OK, 0)
	r.does(0, lock(1, maxFile-1, 0, alone), api.OK, 0)
	r.does(0, unlock(1, 0, maxFile-1), api.OK, 0)
	r.locked(api.Lock{Node: 2, From: 0, To: maxFile - 1, Mode: alone, Session: 1}, api.Lock{Node: 2, From: maxFile - 1, To: maxFile, Mode: alone})
}

// The locks are on the node: whichever name it has, and whichever handle of it is named.
func TestP2002Node(t *testing.T) {
	r := newRoom(t, 2)
	r.All(site.Link("/a", "/again"), site.Symlink("/l", "again"))
	r.does(0, open("/a", mRead), api.OK, 1)
	r.does(0, open("/l", both), api.OK, 2)
	r.does(1, open("/again", both), api.OK, 1)
	r.does(0, lock(1, 0, 4, shared), api.OK, 0)
	r.does(0, lock(2, 2, 4, alone), api.OK, 0)
	r.locked(api.Lock{Node: 2, From: 0, To: 2, Mode: shared}, api.Lock{Node: 2, From: 2, To: 6, Mode: alone})
	r.does(1, try(1, 2, 1, shared), api.ErrBusy, 0)
	r.All(site.Unlink("/a"), site.Rename("/again", "/b"), site.Create("/a"))
	r.does(1, open("/a", both), api.OK, 2) // another file
	r.does(1, try(2, 2, 1, alone), api.OK, 0)
	r.does(1, open("/b", both), api.OK, 3)
	r.does(1, try(3, 2, 1, shared), api.ErrBusy, 0)
	r.All(site.Unlink("/b"))
	r.does(0, unlock(1, 2, 1), api.OK, 0)
	r.does(1, try(3, 2, 1, shared), api.OK, 0)
	r.does(0, shut(1), api.OK, 0)
	r.locked(api.Lock{Node: 2, From: 2, To: 3, Mode: shared, Session: 1}, api.Lock{Node: 3, From: 2, To: 3, Mode: alone, Session: 1})
}

// full is a room in which the sessions hold so many ranges of /a, one byte each, of which no two touch, in turn.
func full(t *testing.T, sessions, count int) *room {
	r := newRoom(t, sessions)
	r.openBoth(sessions)
	for i := range count {
		r.does(i%sessions, lock(1, 3*i, 1, alone), api.OK, 0)
	}
	if got := len(r.h.Locks()); got != count {
		t.Fatalf("P2003: %d ranges, want %d", got, count)
	}
	return r
}

func TestP2005Many(t *testing.T) {
	for _, sessions := range []int{1, 3} {
		r := full(t, sessions, api.MaxLocks)
		was := r.h.Locks()
		last := sessions - 1
		for _, c := range []api.Call{lock(1, 200, 1, alone), try(1, 200, 1, alone), lock(2, 0, 0, shared), try(2, 0, 0, alone)} {
			r.does(last, c, api.ErrLocks, 0)
			r.locked(was...)
		}
		own := 3 * last // the last session's first byte
		r.does(last, lock(1, own, 1, alone), api.OK, 0)
		r.locked(was...)
		r.does(last, lock(1, own+1, 1, shared), api.ErrLocks, 0)
		r.does(last, try(1, own+1, 1, alone), api.OK, 0) // it joins one that is there
		r.does(last, try(1, own, 1, shared), api.ErrLocks, 0)
		r.does(last, unlock(1, own+1, 1), api.OK, 0)
		r.does(last, try(1, own, 1, shared), api.OK, 0)
		if got := len(r.h.Locks()); got != api.MaxLocks {
			t.Fatalf("P2005: %d ranges", got)
		}
		r.does(last, unlock(1, own, 1), api.OK, 0)
		r.does(last, try(2, 0, 0, alone), api.OK, 0)
		r.does(last, try(1, own, 1, alone), api.ErrLocks, 0)
	}
}

// A lock within another makes three of one: it needs two more.
func TestP2005Split(t *testing.T) {
	for count := 61; count <= 63; count++ {
		r := full(t, 1, count)
		r.does(0, lock(2, 10, 5, shared), api.OK, 0)
		was := r.h.Locks()
		want := api.OK
		if count == 62 || count == 63 {
			want = api.ErrLocks
		}
		r.does(0, lock(2, 12, 1, alone), want, 0)
		if want == api.OK {
			was = append(was[:count], api.Lock{Node: 3, From: 10, To: 12, Mode: shared}, api.Lock{Node: 3, From: 12, To: 13, Mode: alone}, api.Lock{Node: 3, From: 13, To: 15, Mode: shared})
		}
		r.locked(was...)
	}
}

// A conflict is told ahead of the number of locks; one that has waited may find too many.
func TestP2005Order(t *testing.T) {
	r := full(t, 2, api.MaxLocks-1)
	r.does(0, lock(2, 0, 0, shared), api.OK, 0)
	r.does(1, try(2, 0, 1, alone), api.ErrBusy, 0)
	r.waits(0, lock(1, 3, 1, alone))
	r.does(1, lock(2, 0, 1, alone), api.ErrDeadlock, 0)
	r.does(1, lock(2, 0, 1, shared), api.ErrLocks, 0)
	r.leaves(0)
	r.does(0, open("/a", both), api.OK, 1)
	r.does(0, open("/b", both), api.OK, 2)
	r.waits(0, lock(1, 3, 1, alone))
	for i := 0; len(r.h.Locks()) < api.MaxLocks-1; i += 2 {
		r.does(1, lock(2, i, 1, shared), api.OK, 0)
	}
	r.does(1, unlock(1, 3, 1), api.OK, 0)
	r.does(1, lock(2, 1000, 1, shared), api.OK, 0)
	r.does(1, lock(2, 1002, 1, shared), api.OK, 0)
	r.goesOn(0, api.ErrLocks, 0)
	r.refuses(0, api.ErrEnded)
	r.does(1, unlock(2, 1002, 1), api.OK, 0)
	r.does(0, lock(1, 3, 1, alone), api.OK, 0)
}

func TestP2006(t *testing.T) {
	r := newRoom(t, 2)
	r.openBoth(2)
	r.does(0, unlock(1, 0, 0), api.OK, 0)
	r.does(0, unlock(1, 5, 5), api.OK, 0)
	r.does(1, lock(1, 0, 9, shared), api.OK, 0)
	r.does(0, lock(1, 0, 9, shared), api.OK, 0)
	r.does(0, lock(2, 0, 9, shared), api.OK, 0)
	r.does(0, unlock(1, 3, 2), api.OK, 0)
	r.locked(api.Lock{Node: 2, From: 0, To: 3, Mode: shared}, api.Lock{Node: 2, From: 0, To: 9, Mode: shared, Session: 1}, api.Lock{Node: 2, From: 5, To: 9, Mode: shared}, api.Lock{Node: 3, From: 0, To: 9, Mode: shared})
	r.does(0, unlock(1, 2, 4), api.OK, 0)
	r.does(0, unlock(1, 8, 0), api.OK, 0)
	r.locked(api.Lock{Node: 2, From: 0, To: 2, Mode: shared}, api.Lock{Node: 2, From: 0, To: 9, Mode: shared, Session: 1}, api.Lock{Node: 2, From: 6, To: 8, Mode: shared}, api.Lock{Node: 3, From: 0, To: 9, Mode: shared})
}

// An unlocking that would split one range too many changes nothing.
func TestP2006Many(t *testing.T) {
	for _, sessions := range []int{1, 2} {
		r := full(t, sessions, api.MaxLocks-1)
		last := sessions - 1
		r.does(last, lock(2, 10, 9, alone), api.OK, 0)
		was := r.h.Locks()
		r.does(last, unlock(2, 12, 3), api.ErrLocks, 0)
		r.locked(was...)
		r.does(last, unlock(2, 10, 3), api.OK, 0)
		r.does(last, unlock(2, 18, 3), api.OK, 0)
		r.does(last, unlock(2, 14, 1), api.ErrLocks, 0)
		r.does(last, unlock(1, 3*last, 1), api.OK, 0)
		r.does(last, unlock(2, 14, 1), api.OK, 0)
		if got := r.h.Locks(); len(got) != api.MaxLocks || got[62] != (api.Lock{Node: 3, From: 13, To: 14, Mode: alone, Session: last}) || got[63] != (api.Lock{Node: 3, From: 15, To: 18, Mode: alone, Session: last}) {
			t.Errorf("P2006: %v", got)
		}
	}
}

// A Close gives up all that the session holds on the node, by whichever handle; what it holds on other nodes, and what others hold there, stays.
func TestP2007(t *testing.T) {
	r := newRoom(t, 2)
	r.openBoth(2)
	r.does(0, open("/a", mRead), api.OK, 3)
	r.does(0, lock(1, 0, 2, alone), api.OK, 0)
	r.does(0, lock(1, 4, 2, shared), api.OK, 0)
	r.does(0, lock(3, maxFile-1, 0, shared), api.OK, 0)
	r.does(0, lock(2, 1, 1, alone), api.OK, 0)
	r.does(1, lock(1, 4, 2, shared), api.OK, 0)
	was := r.h.Locks()
	for _, h := range []int{0, 4, -1, 16, 17, math.MaxInt} {
		r.does(0, shut(h), api.ErrHandle, 0)
	}
	r.locked(was...)
	r.waits(1, lock(1, 0, 0, alone))
	r.does(0, shut(3), api.OK, 0)
	r.locked(api.Lock{Node: 2, From: 4, To: 6, Mode: shared, Session: 1}, api.Lock{Node: 3, From: 1, To: 2, Mode: alone})
	r.goesOn(1, api.OK, 0)
	r.does(0, stat(3), api.ErrHandle, 0)
	r.does(0, stat(1), api.OK, 0) // the other handle stays open
	r.does(0, try(1, 0, 1, shared), api.ErrBusy, 0)
	r.does(1, shut(2), api.OK, 0)
	r.locked(api.Lock{Node: 2, From: 0, To: maxFile, Mode: alone, Session: 1}, api.Lock{Node: 3, From: 1, To: 2, Mode: alone})
	r.does(1, shut(1), api.OK, 0)
	r.does(0, shut(2), api.OK, 0)
	r.locked()
}

// A handle means its file also where somebody has released that beside the desk.
func TestP2007Released(t *testing.T) {
	r := newRoom(t, 1)
	r.openBoth(1)
	trial.Is(t, "Release beside the desk", r.F.Release(2), api.OK)
	r.does(0, stat(1), api.ErrNotHeld, 0)
	r.does(0, lock(1, 0, 4, alone), api.OK, 0)
	r.does(0, lock(2, 0, 4, alone), api.OK, 0)
	r.does(0, unlock(1, 3, 1), api.OK, 0)
	r.locked(api.Lock{Node: 2, From: 0, To: 3, Mode: alone}, api.Lock{Node: 3, From: 0, To: 4, Mode: alone})
	r.does(0, shut(1), api.ErrNotHeld, 0)
	r.locked(api.Lock{Node: 3, From: 0, To: 4, Mode: alone})
	r.does(0, shut(1), api.ErrHandle, 0)
	r.does(0, open("/a", both), api.OK, 1)
	trial.Is(t, "Release beside the desk", r.F.Release(2), api.OK)
	r.leaves(0)
	r.does(0, open("/b", both), api.OK, 1)
}
