package fs

import "vellum/api"

// Where a path is all that an operation is given, Resolve itself looks at it ahead of all else.

func (s *step) stat(op api.Op) api.Reply { return s.told(s.meant(op)) }

func (s *step) lstat(op api.Op) api.Reply { return s.told(s.found(op.Path, false).Node) }

// told is what is told of a node.
func (s *step) told(node int) api.Reply {
	n := s.load(node)
	return api.Reply{Stat: api.Stat{Node: node, Kind: n.Kind, Links: n.Links, Size: n.Size, Owned: n.Owned}}
}

func (s *step) list(op api.Op) api.Reply {
	place := s.found(op.Path, true)
	s.mustNot(place.Kind != api.KDir, api.ErrNotDir)
	entries := s.entries(place.Node)
	return api.Reply{N: len(entries), Entries: entries}
}

func (s *step) readlink(op api.Op) api.Reply {
	place := s.found(op.Path, false)
	s.mustNot(place.Kind != api.KLink, api.ErrNotLink)
	text, e := s.ReadAt(place.Node, 0, s.load(place.Node).Size)
	s.must(e)
	return api.Reply{N: len(text), Text: string(text)}
}
