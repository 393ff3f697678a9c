package shell

import (
	"strconv"

	"vellum/api"
	"vellum/codec"
	"vellum/dump"
)

// sumBytes is how many bytes the sum has that stands at an archive's end.
const sumBytes = 4

// The commands on the tape, which is an archive, or what somebody took for one.

func (s *session) dump(arguments) string {
	archive, e := dump.Save(s.fs)
	if e != api.OK {
		return told(e)
	}
	s.tape = archive
	return answered(e, numbers(len(archive), codec.Sum(archive[:len(archive)-sumBytes]))...)
}

// restore tells how many items were put in, also where one was refused.
func (s *session) restore(arguments) string {
	n, e := dump.Load(s.fs, s.tape)
	return told(e, strconv.Itoa(n))
}

func (s *session) setTape(given arguments) string {
	s.tape = []byte(given.texts[0])
	return answered(api.OK)
}

func (s *session) items(arguments) string {
	items, e := dump.List(s.tape)
	return answered(e, strconv.Itoa(len(items)))
}
