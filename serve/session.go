package serve

import (
	"vellum/api"
	"vellum/handle"
)

// session is one of those who work in a hall.
type session struct {
	hall   *Hall
	number int
	desk   *handle.Desk
	open   [api.MaxOpen]opened // that of handle 1 first
	calls  []api.Call          // that are not answered
	waits  bool                // the first of them is a CLock that has had a turn
	asked  api.Lock            // for which it waits, if it does
}

// opened is what a lock hangs on: the file of a handle, and the mode by which it was opened; that is 0 where the handle is not open.
type opened struct{ node, mode int }

// handleOf is what is known of an open handle.
func (s *session) handleOf(handle int) (opened, api.Errno) {
	if handle < 1 || handle > api.MaxOpen || s.open[handle-1].mode == 0 {
		return opened{}, api.ErrHandle
	}
	return s.open[handle-1], api.OK
}

// close closes an open handle at the desk.
func (s *session) close(handle int) api.Errno {
	s.open[handle-1] = opened{}
	return s.desk.Close(handle)
}

// closeAll closes those handles alone that are open: the desk might have died with the last of them, and would say so of any other.
func (s *session) closeAll() api.Errno {
	for i, o := range s.open {
		if o.mode != 0 && s.close(i+1) == api.ErrDead {
			return api.ErrDead
		}
	}
	return api.OK
}
