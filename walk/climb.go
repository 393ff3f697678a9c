package walk

import (
	"iter"
	"slices"

	"vellum/api"
	"vellum/halt"
)

// climb goes from a directory up to the root: it tells each place, the first and the last one too.
func (w *Walk) climb(from int) iter.Seq[int] {
	return func(yield func(int) bool) {
		place := from
		for climbed := 0; yield(place) && place != api.Root; climbed++ {
			halt.If(climbed == w.Layout().Nodes, api.ErrCorrupt) // the parents go round
			place = w.parent(place)
		}
	}
}

// parent is the directory in which a directory lies: the root in itself, whatever its node says.
func (w *Walk) parent(dir int) int {
	if dir == api.Root {
		return api.Root
	}
	parent := halt.Got(w.Load(dir)).Parent
	w.named(parent, api.KDir)
	return parent
}

// named is the node that something on the disk says to be of that kind: where it is not, the disk is not right.
func (w *Walk) named(number, kind int) api.Node {
	n, e := w.Load(number)
	halt.If(e == api.ErrRange || e == api.ErrNode, api.ErrCorrupt)
	halt.On(e)
	halt.If(n.Kind != kind, api.ErrCorrupt)
	return n
}

// nameIn is the first name of a node in a directory.
func (w *Walk) nameIn(dir, node int) string {
	entries := halt.Got(w.List(dir))
	first := slices.IndexFunc(entries, func(entry api.Entry) bool { return entry.Node == node })
	halt.If(first < 0, api.ErrNotFound)
	return entries[first].Name
}
