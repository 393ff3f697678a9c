package salvage

import (
	"slices"

	"vellum/api"
	"vellum/parcel"
	"vellum/rows"
)

// items are one for each name, as many as may be.
func (w *wreck) items() []api.Item {
	slices.SortFunc(w.names, func(a, b name) int { return parcel.Order(a.path, b.path) })
	names := w.names[:min(len(w.names), api.MaxItems)]
	if left := len(w.names) - len(names); left > 0 {
		w.lose(api.Loss{Kind: api.LMany, Other: left})
	}
	items := make([]api.Item, len(names))
	first := make([]string, len(w.nodes)) // by node: the path at which a file was told
	for i, n := range names {
		items[i] = w.item(n, first[n.node])
		if first[n.node] == "" {
			first[n.node] = n.path
		}
	}
	return items
}

// item is what is told at a name of a node, of which that was the first one, if it has been told.
func (w *wreck) item(n name, first string) api.Item {
	switch kind := w.nodes[n.node].Kind; {
	case kind == api.KLink:
		return api.Item{Kind: api.KLink, Path: n.path, Target: w.texts[n.node]}
	case kind != api.KFile:
		return api.Item{Kind: api.KDir, Path: n.path}
	case first != "":
		return api.Item{Kind: api.KName, Path: n.path, Target: first}
	}
	item := api.Item{Kind: api.KFile, Path: n.path, Size: w.nodes[n.node].Size}
	for _, p := range w.pages[n.node] {
		item.Runs = rows.Join(item.Runs, p.index)
		item.Data = append(item.Data, w.blocks[p.block][:]...)
	}
	return item
}
