package fs

import "vellum/api"

func (s *step) read(op api.Op) api.Reply {
	s.mustPath(op)
	s.mustCount(op.Off, op.N)
	s.mustNot(op.N > api.MaxIO, api.ErrLong)
	data, e := s.ReadAt(s.file(op), op.Off, op.N)
	s.must(e)
	return api.Reply{N: len(data), Data: data}
}

// write goes piece by piece, each in a step of its own: where one finds no room those ahead of it stay.
func (s *step) write(op api.Op) api.Reply {
	s.mustPath(op)
	s.mustCount(op.Off)
	s.mustNot(len(op.Data) > api.MaxIO, api.ErrLong)
	s.mustNot(op.Off > api.MaxFile-len(op.Data), api.ErrBig)
	file := s.file(op)
	for s.done < len(op.Data) {
		if s.done > 0 {
			s.next()
		}
		off := op.Off + s.done
		end := min(s.done+api.StepBytes-off%api.StepBytes, len(op.Data))
		s.must(s.WriteAt(file, off, op.Data[s.done:end]))
		s.done = end
	}
	return api.Reply{N: s.done}
}

func (s *step) truncate(op api.Op) api.Reply {
	s.mustPath(op)
	s.mustCount(op.N)
	s.mustNot(op.N > api.MaxFile, api.ErrBig)
	s.must(s.Resize(s.file(op), op.N))
	return api.Reply{}
}

func (s *step) punch(op api.Op) api.Reply {
	s.mustPath(op)
	s.mustCount(op.Off, op.N)
	s.must(s.Wipe(s.file(op), op.Off, op.N))
	return api.Reply{}
}

func (s *step) runs(op api.Op) api.Reply {
	runs, e := s.Runs(s.file(op))
	s.must(e)
	return api.Reply{N: len(runs), Runs: runs}
}
