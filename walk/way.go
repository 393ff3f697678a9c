package walk

import (
	"vellum/api"
	"vellum/halt"
)

// way is one way along a path.
type way struct {
	*Walk
	at   int      // the directory in which it stands
	left []string // the parts that are left to go
	hops int      // how many links it has followed
}

// end goes on till nothing is left, and tells the place where that is.
func (w *way) end(follow bool) api.Place {
	for len(w.left) > 0 {
		part := w.left[0]
		w.left = w.left[1:]
		if part == up {
			w.at = w.parent(w.at)
			continue
		}
		entry := w.entry(part)
		onward := follow && entry.Kind == api.KLink
		if len(w.left) == 0 && !onward {
			return api.Place{Parent: w.at, Name: part, Node: entry.Node, Kind: entry.Kind}
		}
		w.through(entry)
	}
	return api.Place{Node: w.at, Kind: api.KDir}
}

// entry is the one of that name in the directory in which it stands: the empty one, if there is none.
func (w *way) entry(name string) api.Entry {
	entry, e := w.Look(w.at, name)
	if e != api.ErrNotFound {
		halt.On(e)
	}
	return entry
}

// through goes to where an entry leads that is not the last thing on the way.
func (w *way) through(entry api.Entry) {
	switch entry.Kind {
	case api.KNone:
		halt.On(api.ErrNotFound)
	case api.KFile:
		halt.On(api.ErrNotDir)
	case api.KDir:
		w.named(entry.Node, api.KDir)
		w.at = entry.Node
	case api.KLink:
		w.follow(entry.Node)
	}
}

// follow goes on along a link's text, and behind it along what was left before.
func (w *way) follow(link int) {
	halt.If(w.hops == api.MaxHops, api.ErrLoop)
	w.hops++
	text := w.text(link)
	w.left = append(halt.Got(parts(text)), w.left...)
	if rooted(text) {
		w.at = api.Root
	}
}

// text is that of a link, if a way can go along it.
func (w *way) text(link int) string {
	n := w.named(link, api.KLink)
	halt.If(n.Size == 0, api.ErrPath)
	halt.If(n.Size > api.MaxTarget, api.ErrLong)
	return string(halt.Got(w.ReadAt(link, 0, n.Size)))
}
