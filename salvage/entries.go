package salvage

import (
	"slices"
	"strings"

	"vellum/api"
	"vellum/codec"
)

// perPage is how many slots a block of a directory has.
const perPage = api.Size / api.EntryBytes

// readEntries takes the entries of all directories, whether a way leads there or not.
func (w *wreck) readEntries() {
	for k, n := range w.nodes {
		if n.Kind == api.KDir {
			w.entries[k] = w.standing(k)
		}
	}
}

// standing are the entries of a directory that can be followed, by rising names.
func (w *wreck) standing(dir int) []api.Entry {
	var entries []api.Entry
	met := map[string]int{} // names: how often
	for _, p := range w.pages[dir] {
	slots:
		for i := range perPage {
			entry, e := codec.DecodeEntry(w.blocks[p.block][i*api.EntryBytes : (i+1)*api.EntryBytes])
			slot := p.index*perPage + i
			met[entry.Name]++
			switch {
			case e != api.OK:
				w.lose(api.Loss{Kind: api.LEntry, Node: dir, Index: slot})
				continue slots
			case entry == (api.Entry{}):
				continue slots
			case met[entry.Name] > 1:
				w.lose(api.Loss{Kind: api.LName, Node: dir, Index: slot})
				continue slots
			case !w.leads(entry):
				w.lose(api.Loss{Kind: api.LTarget, Node: dir, Index: slot, Other: entry.Node})
				continue slots
			}
			entry.Slot = slot
			entries = append(entries, entry)
			w.named[entry.Node] = true
		}
	}
	slices.SortFunc(entries, func(a, b api.Entry) int { return strings.Compare(a.Name, b.Name) })
	return entries
}

// leads says whether an entry's node is there, and of its kind.
func (w *wreck) leads(entry api.Entry) bool {
	return entry.Node <= w.layout.Nodes && w.nodes[entry.Node].Kind == entry.Kind
}
