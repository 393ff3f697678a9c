package fs

import (
	"strings"

	"vellum/api"
	"vellum/walk"
)

const up = ".."

// mustSplit gives up where a text is no path, and tells its parts.
func (s *step) mustSplit(path string) []string {
	parts, e := walk.Split(path)
	s.must(e)
	return parts
}

// mustName gives up where a path does not end with a name.
func (s *step) mustName(path string) {
	parts := s.mustSplit(path)
	last := len(parts) - 1
	s.mustNot(last < 0 || parts[last] == up, api.ErrPath)
}

// mustPath gives up where an operation that may be for a held node is for none, and what it has instead is no path.
func (s *step) mustPath(op api.Op) {
	if op.Node <= 0 {
		s.mustSplit(op.Path)
	}
}

// mustBeTarget gives up where a symbolic link can't have that text.
func (s *step) mustBeTarget(text string) {
	s.mustNot(text == "" || strings.Contains(text, "\x00"), api.ErrPath)
	s.mustNot(len(text) > api.MaxTarget, api.ErrLong)
}

// mustCount gives up where an offset or a number of bytes is none.
func (s *step) mustCount(numbers ...int) {
	for _, number := range numbers {
		s.mustNot(number < 0, api.ErrArg)
	}
}
