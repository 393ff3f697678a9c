package fs

import "vellum/api"

func (s *step) create(op api.Op) api.Reply {
	s.mustName(op.Path)
	s.born(api.KFile, s.vacant(op.Path))
	return api.Reply{}
}

func (s *step) mkdir(op api.Op) api.Reply {
	s.mustName(op.Path)
	place := s.vacant(op.Path)
	s.mustTakeLink(place.Parent)
	s.born(api.KDir, place)
	s.relink(place.Parent, 1)
	return api.Reply{}
}

func (s *step) symlink(op api.Op) api.Reply {
	s.mustName(op.Path)
	s.mustBeTarget(op.Other)
	link := s.born(api.KLink, s.vacant(op.Path))
	s.must(s.WriteAt(link, 0, []byte(op.Other)))
	return api.Reply{}
}

func (s *step) link(op api.Op) api.Reply {
	s.mustSplit(op.Path)
	s.mustName(op.Other)
	file := s.fileAt(op.Path)
	place := s.vacant(op.Other)
	s.mustTakeLink(file)
	s.must(s.Add(place.Parent, place.Name, file, api.KFile))
	s.relink(file, 1)
	return api.Reply{}
}

func (s *step) unlink(op api.Op) api.Reply {
	s.mustName(op.Path)
	place := s.found(op.Path, false)
	s.mustNot(place.Kind == api.KDir, api.ErrIsDir)
	s.must(s.Del(place.Parent, place.Name))
	s.unname(place.Node)
	return api.Reply{}
}

func (s *step) rmdir(op api.Op) api.Reply {
	s.mustName(op.Path)
	place := s.found(op.Path, false)
	s.mustNot(place.Kind != api.KDir, api.ErrNotDir)
	s.mustBeEmpty(place.Node)
	s.must(s.Del(place.Parent, place.Name))
	s.must(s.Free(place.Node))
	s.relink(place.Parent, -1)
	return api.Reply{}
}

func (s *step) rename(op api.Op) api.Reply {
	s.mustName(op.Path)
	s.mustName(op.Other)
	from := s.found(op.Path, false)
	to := s.place(op.Other, false)
	if to.Node == from.Node {
		return api.Reply{}
	}
	s.mustFit(from, to)
	s.must(s.Del(from.Parent, from.Name))
	if to.Node == 0 {
		s.must(s.Add(to.Parent, to.Name, from.Node, from.Kind))
	} else {
		s.replace(from, to)
	}
	if from.Kind == api.KDir && from.Parent != to.Parent {
		s.rehang(from, to.Parent)
	}
	return api.Reply{}
}

// mustFit gives up where what lies at one place can't come to the other one.
func (s *step) mustFit(from, to api.Place) {
	isDir := from.Kind == api.KDir
	if isDir {
		inside, e := s.Inside(to.Parent, from.Node)
		s.must(e)
		s.mustNot(inside, api.ErrInside)
	}
	switch {
	case to.Node != 0:
		s.mustNot(isDir && to.Kind != api.KDir, api.ErrNotDir)
		s.mustNot(!isDir && to.Kind == api.KDir, api.ErrIsDir)
		if isDir {
			s.mustBeEmpty(to.Node)
		}
	case isDir && from.Parent != to.Parent:
		s.mustTakeLink(to.Parent)
	}
}

// replace lets an entry lead to what has come from elsewhere, and what it led to go.
func (s *step) replace(from, to api.Place) {
	s.must(s.Swap(to.Parent, to.Name, from.Node, from.Kind))
	if to.Kind != api.KDir {
		s.unname(to.Node)
		return
	}
	s.must(s.Free(to.Node))
	s.relink(to.Parent, -1) // ahead of the link that the parent may take instead: it may have as many as it can
}

// rehang lets a directory lie in another parent.
func (s *step) rehang(dir api.Place, parent int) {
	n := s.load(dir.Node)
	n.Parent = parent
	s.must(s.Save(dir.Node, n))
	s.relink(dir.Parent, -1)
	s.relink(parent, 1)
}
