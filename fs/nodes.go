package fs

import "vellum/api"

// load is a node of which is known that it is there.
func (s *step) load(node int) api.Node {
	n, e := s.Load(node)
	s.must(e)
	return n
}

func (s *step) held(node int) bool { return s.fs.held[node] > 0 }

// entries are those of a directory.
func (s *step) entries(dir int) []api.Entry {
	entries, e := s.List(dir)
	s.must(e)
	return entries
}

// mustBeEmpty gives up where a directory has an entry.
func (s *step) mustBeEmpty(dir int) { s.mustNot(len(s.entries(dir)) > 0, api.ErrNotEmpty) }

// mustTakeLink gives up where a node can have no more links.
func (s *step) mustTakeLink(node int) {
	s.mustNot(s.load(node).Links >= api.MaxLinks, api.ErrLinks)
}

// born makes a node, and names it where there was none. A file or a link has its name as its one link.
func (s *step) born(kind int, at api.Place) int {
	parent := 0
	if kind == api.KDir {
		parent = at.Parent
	}
	node, e := s.Make(kind, parent)
	s.must(e)
	if kind != api.KDir {
		s.relink(node, 1)
	}
	s.must(s.Add(at.Parent, at.Name, node, kind))
	return node
}

// relink lets a node have so many links more, and tells how many it has then.
func (s *step) relink(node, more int) int {
	n := s.load(node)
	n.Links += more
	s.must(s.Save(node, n))
	return n.Links
}

// unname lets a file or a link have a name less. Without any it goes, unless it is held.
func (s *step) unname(node int) {
	if s.relink(node, -1) == 0 && !s.held(node) {
		s.letGo(node)
	}
}

// letGo frees a file or a link, with all that it owns.
func (s *step) letGo(node int) {
	s.must(s.Cut(node, 0))
	s.must(s.Free(node))
}

// plant makes the root.
func (s *step) plant() {
	s.must(s.Clear())
	_, e := s.Make(api.KDir, api.Root)
	s.must(e)
}

// orphans are the files without a link, by rising numbers.
func (s *step) orphans() []int {
	files, e := s.All(api.KFile)
	s.must(e)
	var orphans []int
	for _, node := range files {
		if s.load(node).Links == 0 {
			orphans = append(orphans, node)
		}
	}
	return orphans
}

// release lets a node be held once less. An orphan goes with the last time.
func (s *step) release(node int) {
	s.mustNot(!s.held(node), api.ErrNotHeld)
	s.fs.held[node]--
	if s.held(node) {
		return
	}
	delete(s.fs.held, node)
	if s.load(node).Links == 0 {
		s.letGo(node)
	}
}
