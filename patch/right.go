package patch

import (
	"vellum/api"
	"vellum/parcel"
	"vellum/rows"
)

const (
	maxChanges = 2 * api.MaxItems
	maxSum     = 1<<32 - 1
)

// right says whether a patch is right, but for how many changes it has.
func right(p api.Patch) bool {
	if !isSum(p.Base) || !isSum(p.Goal) {
		return false
	}
	last := ""
	for _, change := range p.Changes {
		path := change.Item.Path
		if !parcel.Written(path) || parcel.Order(last, path) >= 0 || !fits(change) {
			return false
		}
		last = path
	}
	return true
}

func isSum(n int) bool { return n >= 0 && n <= maxSum }

// fits says whether a change has what its kind has, and no more.
func fits(change api.Change) bool {
	item := change.Item
	switch change.Kind {
	case api.CDrop:
		return len(change.Set) == 0 && item.Kind == api.KNone && item.Target == "" && parcel.Bare(item)
	case api.CPut:
		return len(change.Set) == 0 && parcel.Fits(item) && (item.Kind != api.KName || mayName(item))
	case api.CEdit:
		return item.Kind == api.KFile && item.Target == "" && parcel.Spread(item.Size, item.Runs) && within(change.Set, item.Runs) && parcel.Filled(item.Size, change.Set, item.Data)
	}
	return false
}

// mayName says whether the target of a name may be a file's path; whether it is one hangs on the tree.
func mayName(item api.Item) bool {
	return parcel.Written(item.Target) && parcel.Order(item.Target, item.Path) < 0
}

// within says whether rows rise apart, and all their indexes lie in runs, which do so.
func within(set, runs []api.Run) bool {
	for _, row := range set {
		for len(runs) > 0 && runs[0].To < row.To {
			runs = runs[1:]
		}
		// There is a hole behind each of the runs: what lies in several of them is no row.
		if len(runs) == 0 || row.From < runs[0].From {
			return false
		}
	}
	return rows.Rise(set)
}
