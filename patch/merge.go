package patch

import (
	"vellum/api"
	"vellum/parcel"
)

// meeting is what comes of three trees, as far as they were gone through.
type meeting struct {
	items     []api.Item
	kinds     map[string]int // of these items, by path
	conflicts []api.Conflict
}

// take takes what the three trees have at a path.
func (m *meeting) take(path string, base, left, right *api.Item) {
	pick, both := picked(base, left, right)
	if both {
		m.conflict(api.XBoth, path)
	}
	switch {
	case pick == nil:
	case !m.hangs(path):
		m.conflict(api.XLoose, path)
	case pick.Kind == api.KName && m.kinds[pick.Target] != api.KFile:
		m.conflict(api.XName, path)
	default:
		m.kinds[path] = pick.Kind
		m.items = append(m.items, copied(*pick))
	}
}

// picked is the state that a path gets; true, if both sides have changed it, each in another way.
func picked(base, left, right *api.Item) (*api.Item, bool) {
	switch {
	case same(left, right):
		return left, false
	case same(left, base):
		return right, false
	}
	return left, !same(right, base)
}

// hangs says whether the directory of a path is there.
func (m *meeting) hangs(path string) bool {
	above := parcel.Above(path)
	return above == "" || m.kinds[above] == api.KDir
}

func (m *meeting) conflict(kind int, path string) {
	m.conflicts = append(m.conflicts, api.Conflict{Kind: kind, Path: path})
}
