package dump

import (
	"vellum/api"
	"vellum/parcel"
)

// list is what is known of a list of items as far as it was gone through: the next one is held against it.
type list struct {
	last  string         // the last path
	kinds map[string]int // by path
}

func newList() list { return list{kinds: map[string]int{}} }

// takes says whether an item may come next in a right list; if so, it is in it from now on.
func (l *list) takes(item api.Item) bool {
	if !parcel.Written(item.Path) || parcel.Order(l.last, item.Path) >= 0 || !l.hangs(item.Path) || !l.fits(item) {
		return false
	}
	l.last = item.Path
	l.kinds[item.Path] = item.Kind
	return true
}

// hangs says whether the directory of a path is there.
func (l *list) hangs(path string) bool {
	above := parcel.Above(path)
	return above == "" || l.kinds[above] == api.KDir
}

// fits says whether an item has what its kind has, and no more; a name must be one of a file.
func (l *list) fits(item api.Item) bool {
	return parcel.Fits(item) && (item.Kind != api.KName || l.kinds[item.Target] == api.KFile)
}
