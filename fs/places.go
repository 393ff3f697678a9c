package fs

import "vellum/api"

// place is where a path leads.
func (s *step) place(path string, follow bool) api.Place {
	place, e := s.Resolve(path, follow)
	s.must(e)
	return place
}

// found is where a path leads, if there is a node.
func (s *step) found(path string, follow bool) api.Place {
	place := s.place(path, follow)
	s.mustNot(place.Node == 0, api.ErrNotFound)
	return place
}

// vacant is where a path leads, if there is no node.
func (s *step) vacant(path string) api.Place {
	place := s.place(path, false)
	s.mustNot(place.Node != 0, api.ErrExists)
	return place
}

// fileAt is the node of the file to which a path leads.
func (s *step) fileAt(path string) int {
	place := s.found(path, true)
	s.mustNot(place.Kind == api.KDir, api.ErrIsDir)
	return place.Node
}

// meant is the node for which an operation is: the held one of that number, or the one to which the path leads.
func (s *step) meant(op api.Op) int {
	if op.Node <= 0 {
		return s.found(op.Path, true).Node
	}
	s.mustNot(!s.held(op.Node), api.ErrNotHeld)
	return op.Node
}

// file is the node for which an operation on bytes is.
func (s *step) file(op api.Op) int {
	node := s.meant(op)
	s.mustNot(s.load(node).Kind == api.KDir, api.ErrIsDir)
	return node
}
