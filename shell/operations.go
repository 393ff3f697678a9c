package shell

import "vellum/api"

// The commands that do one operation.

// onPath does an operation that is given a path and nothing else.
func onPath(kind int, tells func(api.Reply) []string) func(*session, arguments) string {
	return func(s *session, given arguments) string {
		reply := s.fs.Do(api.Op{Kind: kind, Path: given.texts[0]})
		return answered(reply.Err, tells(reply)...)
	}
}

// fromTo does an operation that is given an old path and a new one.
func fromTo(kind int) func(*session, arguments) string {
	return func(s *session, given arguments) string {
		return answered(s.fs.Do(api.Op{Kind: kind, Path: given.texts[0], Other: given.texts[1]}).Err)
	}
}

func (s *session) symlink(given arguments) string {
	return answered(s.fs.Do(api.Op{Kind: api.OpSymlink, Path: given.texts[1], Other: given.texts[0]}).Err)
}

func (s *session) read(given arguments) string {
	off, n := given.numbers[0], given.numbers[1]
	if n > maxTold {
		return told(api.ErrLong)
	}
	reply := s.fs.Do(api.Op{Kind: api.OpRead, Path: given.texts[0], Off: off, N: n})
	return answered(reply.Err, Quote(reply.Data))
}

func (s *session) write(given arguments) string {
	reply := s.fs.Do(api.Op{Kind: api.OpWrite, Path: given.texts[0], Off: given.numbers[0], Data: []byte(given.texts[1])})
	return wrote(reply.N, reply.Err)
}

func (s *session) truncate(given arguments) string {
	return answered(s.fs.Do(api.Op{Kind: api.OpTruncate, Path: given.texts[0], N: given.numbers[0]}).Err)
}

func (s *session) punch(given arguments) string {
	return answered(s.fs.Do(api.Op{Kind: api.OpPunch, Path: given.texts[0], Off: given.numbers[0], N: given.numbers[1]}).Err)
}
