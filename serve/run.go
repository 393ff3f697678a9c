package serve

import (
	"slices"
	"sync"

	"vellum/api"
	"vellum/fs"
)

// Run plays all sessions by a schedule.
func Run(f *fs.FS, calls [][]api.Call, order []int) ([][]api.Answer, api.Errno) {
	h, e := New(f, len(calls))
	if e != api.OK {
		return nil, e
	}
	for i, list := range calls {
		if len(list) > api.MaxCalls {
			return nil, api.ErrMany
		}
		h.sessions[i].calls = slices.Clone(list)
	}
	c := conductor{hall: h, answers: make([][]api.Answer, len(calls))}
	c.begin()
	e = c.conduct(order)
	c.end()
	if e != api.OK {
		return nil, e
	}
	return c.answers, api.OK
}

// conductor says who has the next turn, and notes what is answered. A session has its turn while the conductor waits for the outcome: so two never have theirs at once.
type conductor struct {
	hall    *Hall
	players []player
	joined  sync.WaitGroup
	answers [][]api.Answer
}

// player is a session in a goroutine of its own.
type player struct {
	turns    chan struct{}
	outcomes chan outcome
}

// outcome is what came of a turn, and of the leaving that may come with it.
type outcome struct {
	answer api.Answer
	e      api.Errno
}

// begin lets every session wait for its turns.
func (c *conductor) begin() {
	for session := range c.hall.sessions {
		p := player{make(chan struct{}), make(chan outcome)}
		c.players = append(c.players, p)
		c.joined.Add(1)
		go func() {
			defer c.joined.Done()
			for range p.turns {
				p.outcomes <- c.hall.played(session)
			}
		}()
	}
}

// end sends the sessions home.
func (c *conductor) end() {
	for _, p := range c.players {
		close(p.turns)
	}
	c.joined.Wait()
	for _, p := range c.players {
		close(p.outcomes)
	}
}

// conduct goes by the order first, and then round after round. Each round answers a call, as no two sessions wait for one another.
func (c *conductor) conduct(order []int) api.Errno {
	for _, x := range order {
		if e := c.turn(max(x, 0) % len(c.players)); e != api.OK {
			return e
		}
	}
	for c.hall.busy() {
		for session := range c.players {
			if e := c.turn(session); e != api.OK {
				return e
			}
		}
	}
	return api.OK
}

// turn gives a session one turn, if it has a call left.
func (c *conductor) turn(session int) api.Errno {
	if !c.hall.asks(session) {
		return api.OK
	}
	p := c.players[session]
	p.turns <- struct{}{}
	o := <-p.outcomes
	switch o.e {
	case api.OK:
		c.answers[session] = append(c.answers[session], o.answer)
	case api.ErrWaits:
	default:
		return o.e
	}
	return api.OK
}

// played gives a session its turn. It leaves with its last answer.
func (h *Hall) played(session int) outcome {
	answer, e := h.Turn(session)
	if e == api.OK && !h.asks(session) {
		e = h.Leave(session)
	}
	return outcome{answer, e}
}

// asks says whether a session has a call that is not answered.
func (h *Hall) asks(session int) bool {
	h.guard.Lock()
	defer h.guard.Unlock()
	return len(h.sessions[session].calls) > 0
}

// busy says whether any session has such a call.
func (h *Hall) busy() bool {
	h.guard.Lock()
	defer h.guard.Unlock()
	return slices.ContainsFunc(h.sessions, func(s *session) bool { return len(s.calls) > 0 })
}
