package site

import (
	"math"
	"slices"
	"strings"

	"vellum/api"
	"vellum/trial"
)

// Lister draws lists of items: right ones most often.
type Lister struct {
	*trial.Dice
}

func (d Lister) name() string {
	return trial.One(d.Dice, "a", "b", "a.b", "a!", "ab", "B", "\xff", "\x01", "...", strings.Repeat("n", 54))
}

// Paths are drawn paths in their order, each twice seldom, with most of their directories.
func (d Lister) Paths() []string {
	list := []string{""}
	for range d.Below(14) {
		list = append(list, trial.One(d.Dice, list...)+"/"+d.name())
	}
	slices.SortFunc(list, Order)
	list = list[1:]
	if d.Below(10) > 0 {
		list = slices.Compact(list)
	}
	return list
}

func (d Lister) runs(size int) []api.Run {
	var list []api.Run
	for at := d.Below(3); at*512 < size && len(list) < 6; {
		end := min(at+1+d.Below(4), (size+511)/512)
		list = append(list, Run(at, end))
		at = end + 1 + d.Below(3)
	}
	return list
}

// File draws a file.
func (d Lister) File(path string) api.Item {
	size := trial.One(d.Dice, 0, 1, 511, 512, 513, d.Below(3000), d.Below(9000), api.MaxFile)
	runs := d.runs(size)
	blocks := 0
	for _, r := range runs {
		blocks += r.To - r.From
	}
	item := FileItem(path, size, 512*blocks, runs...)
	for i, x := range item.Data {
		item.Data[i] = x * byte(d.Below(256))
	}
	return item
}

// Items draws a list.
func (d Lister) Items() []api.Item {
	var items []api.Item
	var files []string
	paths := d.Paths()
	for i, p := range paths {
		above := i+1 < len(paths) && strings.HasPrefix(paths[i+1], p+"/")
		kind := 1 + d.Below(4)
		switch {
		case above && d.Below(30) > 0 || kind == 2:
			items = append(items, DirItem(p))
		case kind == 4 && len(files) > 0:
			items = append(items, NameItem(p, trial.One(d.Dice, files...)))
		case kind == 3:
			items = append(items, LinkItem(p, trial.One(d.Dice, "x", "/", "..", strings.Repeat("t", 255))))
		default:
			items = append(items, d.File(p))
			files = append(files, p)
		}
	}
	return items
}

// Spoil does one thing to a list that may break a rule, or not.
func (d Lister) Spoil(items []api.Item) []api.Item {
	if len(items) == 0 {
		return items
	}
	i, j := d.Below(len(items)), d.Below(len(items))
	x := &items[i]
	switch d.Below(14) {
	case 0:
		items[i], items[j] = items[j], items[i]
	case 1:
		return slices.Delete(items, i, i+1)
	case 2:
		x.Path = trial.One(d.Dice, items[j].Path, x.Path+"/", x.Path+"/a", "/"+x.Path, x.Path[1:], x.Path+"\x00", x.Path+"x", "/"+strings.Repeat("x/", 511), x.Path+"/..")
	case 3:
		x.Kind = trial.One(d.Dice, 0, 1, 2, 3, 4, 5, 257, -1)
	case 4:
		x.Size += trial.One(d.Dice, -1, 1, 512, -512, api.MaxFile, math.MaxInt)
	case 5:
		x.Target = trial.One(d.Dice, "", "x", items[j].Path, strings.Repeat("x", 256), x.Target+"\x00")
	case 6:
		x.Runs = append(x.Runs, Run(trial.One(d.Dice, 0, 1, 4, 9), trial.One(d.Dice, 1, 2, 5, 10)))
	case 7:
		x.Data = append(x.Data, make([]byte, trial.One(d.Dice, 1, 512))...)
	case 8:
		x.Data = x.Data[:max(0, len(x.Data)-trial.One(d.Dice, 1, 512))]
	case 9:
		if len(x.Data) > 0 {
			x.Data[len(x.Data)-1-d.Below(min(600, len(x.Data)))]++
		}
	case 10:
		if len(x.Runs) > 0 {
			r := &x.Runs[d.Below(len(x.Runs))]
			r.From += d.Below(3) - 1
			r.To += d.Below(3) - 1
		}
	case 11:
		if len(x.Runs) > 1 {
			x.Runs[0], x.Runs[1] = x.Runs[1], x.Runs[0]
		}
	case 12:
		if len(x.Runs) > 0 {
			last := len(x.Runs) - 1
			x.Data = x.Data[:min(len(x.Data), max(0, len(x.Data)-512*(x.Runs[last].To-x.Runs[last].From)))]
			x.Runs = x.Runs[:last]
		}
	case 13:
		return append(items, items[j])
	}
	return items
}
