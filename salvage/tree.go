package salvage

import (
	"slices"
	"strconv"
	"strings"

	"vellum/api"
)

const (
	slash = "/"
	lost  = "lost" // the directory below the root for what has no way from there
)

// name is one that a node has in the tree that is told.
type name struct {
	path string
	node int // 0: the directory for what is loose, which is none
}

// nameAll names what the root leads to, and then what is loose.
func (w *wreck) nameAll() {
	if w.nodes[api.Root].Kind == api.KDir {
		w.placed[api.Root] = true
		w.goThrough(api.Root, "")
	} else {
		w.lose(api.Loss{Kind: api.LRoot})
	}
	w.nameLoose()
}

// goThrough names what lies in a directory; in a node of another kind lies nothing.
func (w *wreck) goThrough(dir int, path string) {
	for _, entry := range w.entries[dir] {
		p := path + slash + entry.Name
		switch {
		case len(p) > api.MaxPath:
			w.lose(api.Loss{Kind: api.LDeep, Node: dir, Index: entry.Slot, Other: entry.Node})
		case entry.Kind == api.KLink && w.texts[entry.Node] == "":
		case entry.Kind == api.KDir && w.placed[entry.Node]:
			w.lose(api.Loss{Kind: api.LAgain, Node: dir, Index: entry.Slot, Other: entry.Node})
		default:
			w.place(entry.Node, p)
		}
	}
}

// place gives a node a name, and names what lies in it.
func (w *wreck) place(node int, path string) {
	w.placed[node] = true
	w.names = append(w.names, name{path, node})
	w.goThrough(node, path)
}

// nameLoose lays what has no name yet below a directory of its own: first the directories that nobody names, as they may lead to the others; then those that name each other in a ring; then the rest.
func (w *wreck) nameLoose() {
	path := w.freePath()
	was := len(w.names)
	for _, loose := range [...]func(int) bool{w.unnamedDir, w.isDir, w.hasContent} {
		for k := range w.nodes {
			if !w.placed[k] && loose(k) {
				w.lose(api.Loss{Kind: api.LLoose, Node: k})
				w.place(k, path+slash+"n"+strconv.Itoa(k))
			}
		}
	}
	if len(w.names) > was {
		w.names = append(w.names, name{path: path})
	}
}

func (w *wreck) isDir(k int) bool { return w.nodes[k].Kind == api.KDir }

func (w *wreck) unnamedDir(k int) bool { return w.isDir(k) && !w.named[k] }

// hasContent says whether something is made of a file or a link: of an orphan nothing is, nor of a link without a text.
func (w *wreck) hasContent(k int) bool {
	switch w.nodes[k].Kind {
	case api.KFile:
		return w.named[k] || w.nodes[k].Links > 0
	case api.KLink:
		return w.texts[k] != ""
	}
	return false
}

// freePath is the path for what is loose: one that the root has no entry for.
func (w *wreck) freePath() string {
	free := lost
	for i := 1; w.rootHas(free); i++ {
		free = lost + "." + strconv.Itoa(i)
	}
	return slash + free
}

func (w *wreck) rootHas(name string) bool {
	_, has := slices.BinarySearchFunc(w.entries[api.Root], name, func(e api.Entry, name string) int { return strings.Compare(e.Name, name) })
	return has
}
