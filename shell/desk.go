package shell

import (
	"strconv"

	"vellum/api"
)

// The commands on open files.

func (s *session) open(given arguments) string {
	h, e := s.desk.Open(given.texts[0], given.numbers[0])
	return answered(e, strconv.Itoa(h))
}

func (s *session) get(given arguments) string {
	h, n := given.numbers[0], given.numbers[1]
	if n > maxTold {
		return told(api.ErrLong)
	}
	data, e := s.desk.Read(h, n)
	return answered(e, Quote(data))
}

func (s *session) put(given arguments) string {
	return wrote(s.desk.Write(given.numbers[0], []byte(given.texts[0])))
}

func (s *session) seek(given arguments) string {
	at, e := s.desk.Seek(given.numbers[0], given.numbers[1], given.numbers[2])
	return answered(e, strconv.Itoa(at))
}

func (s *session) fstat(given arguments) string {
	stat, e := s.desk.Stat(given.numbers[0])
	return answered(e, statWords(stat)...)
}

func (s *session) close(given arguments) string { return answered(s.desk.Close(given.numbers[0])) }
