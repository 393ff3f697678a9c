package dump

import (
	"slices"
	"strings"

	"vellum/api"
	"vellum/codec"
	"vellum/walk"
)

const slash = "/"

// list is what is known of a list of items as far as it was gone through: the next one is held against it.
type list struct {
	last  []string       // the parts of the last path
	kinds map[string]int // by path
}

func newList() list { return list{kinds: map[string]int{}} }

// takes says whether an item may come next in a right list; if so, it is in it from now on.
func (l *list) takes(item api.Item) bool {
	parts, written := partsOf(item.Path)
	if !written || slices.Compare(l.last, parts) >= 0 || !l.hangs(item.Path) || !l.fits(item) {
		return false
	}
	l.last = parts
	l.kinds[item.Path] = item.Kind
	return true
}

// partsOf are the parts of a path, if it is written as the paths of items are.
func partsOf(path string) ([]string, bool) {
	parts, e := walk.Split(path)
	return parts, e == api.OK && len(parts) > 0 && slash+strings.Join(parts, slash) == path && !slices.ContainsFunc(parts, noName)
}

// noName tells the part .. too, against which Split has nothing.
func noName(part string) bool { return codec.Name(part) != api.OK }

// hangs says whether the directory of a path is there.
func (l *list) hangs(path string) bool {
	above := path[:strings.LastIndex(path, slash)]
	return above == "" || l.kinds[above] == api.KDir
}

// fits says whether an item has what its kind has, and no more.
func (l *list) fits(item api.Item) bool {
	switch item.Kind {
	case api.KFile:
		return item.Target == "" && contentFits(item)
	case api.KDir:
		return item.Target == "" && bare(item)
	case api.KLink:
		return textFits(item.Target) && bare(item)
	case api.KName:
		return l.kinds[item.Target] == api.KFile && bare(item)
	}
	return false
}

func bare(item api.Item) bool {
	return item.Size == 0 && len(item.Runs) == 0 && len(item.Data) == 0
}

func textFits(target string) bool {
	return len(target) > 0 && len(target) <= api.MaxTarget && !strings.Contains(target, "\x00")
}

func contentFits(file api.Item) bool {
	if file.Size < 0 || file.Size > api.MaxFile || !rise(file.Runs) {
		return false
	}
	end := 0
	if len(file.Runs) > 0 {
		end = file.Runs[len(file.Runs)-1].To
	}
	if end > (file.Size+api.Size-1)/api.Size || len(file.Data) != indexes(file.Runs)*api.Size {
		return false
	}
	behind := max(0, end*api.Size-file.Size)
	return !slices.ContainsFunc(file.Data[len(file.Data)-behind:], notZero)
}

// rise says whether runs rise, none of them empty, with a hole between each two.
func rise(runs []api.Run) bool {
	above := -1
	for _, run := range runs {
		if run.From <= above || run.To <= run.From {
			return false
		}
		above = run.To
	}
	return true
}

// indexes is how many indexes lie in runs.
func indexes(runs []api.Run) int {
	count := 0
	for _, run := range runs {
		count += run.To - run.From
	}
	return count
}

func notZero(x byte) bool { return x != 0 }
