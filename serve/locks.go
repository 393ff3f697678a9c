package serve

import (
	"cmp"
	"slices"

	"vellum/api"
)

// doLock waits where it can't have the lock now, unless it would wait for ever.
func (s *session) doLock(c api.Call) api.Reply {
	want, e := s.wanted(c)
	switch {
	case e != api.OK:
		return api.Reply{Err: e}
	case !s.hall.taken(want):
		return api.Reply{Err: s.hall.hold(with(s.hall.locks, want))}
	case s.hall.endless(want):
		return api.Reply{Err: api.ErrDeadlock}
	}
	s.waits, s.asked = true, want
	return api.Reply{Err: api.ErrWaits}
}

func (s *session) doTry(c api.Call) api.Reply {
	want, e := s.wanted(c)
	switch {
	case e != api.OK:
		return api.Reply{Err: e}
	case s.hall.taken(want):
		return api.Reply{Err: api.ErrBusy}
	}
	return api.Reply{Err: s.hall.hold(with(s.hall.locks, want))}
}

func (s *session) doUnlock(c api.Call) api.Reply {
	o, e := s.handleOf(c.Handle)
	if e != api.OK {
		return api.Reply{Err: e}
	}
	from, to, e := reach(c)
	if e != api.OK {
		return api.Reply{Err: e}
	}
	return api.Reply{Err: s.hall.hold(without(s.hall.locks, s.lockOn(o.node, from, to)))}
}

// wanted is the lock for which a call asks.
func (s *session) wanted(c api.Call) (api.Lock, api.Errno) {
	o, e := s.handleOf(c.Handle)
	if e != api.OK {
		return api.Lock{}, e
	}
	need := 0
	switch c.Mode {
	case api.LShared:
		need = api.MRead
	case api.LAlone:
		need = api.MWrite
	default:
		return api.Lock{}, api.ErrArg
	}
	from, to, e := reach(c)
	if e != api.OK {
		return api.Lock{}, e
	}
	if o.mode&need == 0 {
		return api.Lock{}, api.ErrMode
	}
	want := s.lockOn(o.node, from, to)
	want.Mode = c.Mode
	return want, api.OK
}

// reach is the range of bytes that a call names.
func reach(c api.Call) (from, to int, e api.Errno) {
	switch {
	case c.Off < 0 || c.N < 0:
		return 0, 0, api.ErrArg
	case c.Off >= api.MaxFile || c.N > api.MaxFile-c.Off:
		return 0, 0, api.ErrBig
	case c.N == 0:
		return c.Off, api.MaxFile, api.OK
	}
	return c.Off, c.Off + c.N, api.OK
}

// lockOn is a range of a node's bytes, of this session, in no mode.
func (s *session) lockOn(node, from, to int) api.Lock {
	return api.Lock{Node: node, From: from, To: to, Session: s.number}
}

// hold lets these be the locks that are held, unless they are too many.
func (h *Hall) hold(locks []api.Lock) api.Errno {
	if len(locks) > api.MaxLocks {
		return api.ErrLocks
	}
	slices.SortFunc(locks, inOrder)
	h.locks = locks
	return api.OK
}

// taken says whether somebody holds what can't be held beside this lock.
func (h *Hall) taken(want api.Lock) bool {
	return slices.ContainsFunc(h.locks, func(l api.Lock) bool { return conflict(l, want) })
}

// endless says whether one of those for whom this lock would wait waits, directly or over others, for the session that asks.
func (h *Hall) endless(want api.Lock) bool {
	var reached [api.MaxSessions]bool
	h.follow(want, &reached)
	return reached[want.Session]
}

// follow marks all for whom one would wait who asks for this lock, directly or over others that wait.
func (h *Hall) follow(want api.Lock, reached *[api.MaxSessions]bool) {
	for _, l := range h.locks {
		if !conflict(l, want) || reached[l.Session] {
			continue
		}
		reached[l.Session] = true
		if s := h.sessions[l.Session]; s.waits {
			h.follow(s.asked, reached)
		}
	}
}

// conflict says whether two locks can't be held at once.
func conflict(a, b api.Lock) bool {
	return a.Session != b.Session && a.Node == b.Node && a.From < b.To && b.From < a.To && (a.Mode == api.LAlone || b.Mode == api.LAlone)
}

// inOrder is the order in which locks are told.
func inOrder(a, b api.Lock) int {
	return cmp.Or(cmp.Compare(a.Node, b.Node), cmp.Compare(a.From, b.From), cmp.Compare(a.Session, b.Session))
}

// without are the locks that are left where a session gives up a range of a node. The list itself stays as it is.
func without(locks []api.Lock, gone api.Lock) []api.Lock {
	var left []api.Lock
	for _, l := range locks {
		if l.Session != gone.Session || l.Node != gone.Node {
			left = append(left, l)
			continue
		}
		before, behind := l, l
		before.To = min(l.To, gone.From)
		behind.From = max(l.From, gone.To)
		for _, part := range [...]api.Lock{before, behind} {
			if part.From < part.To {
				left = append(left, part)
			}
		}
	}
	return left
}

// with are the locks that there are where a session sets a range of a node to a mode. The list itself stays as it is.
func with(locks []api.Lock, set api.Lock) []api.Lock {
	var all []api.Lock
	for _, l := range without(locks, set) {
		if l.Session == set.Session && l.Node == set.Node && l.Mode == set.Mode && l.From <= set.To && set.From <= l.To {
			set.From, set.To = min(l.From, set.From), max(l.To, set.To)
		} else {
			all = append(all, l)
		}
	}
	return append(all, set)
}
