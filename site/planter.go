package site

import (
	"strings"

	"vellum/api"
	"vellum/trial"
)

// Planter draws operations by which trees grow and wither.
type Planter struct {
	*trial.Dice
}

// Path draws a path of few names, so that the same ones come again.
func (d Planter) Path() string {
	path := ""
	for range 1 + d.Below(3) {
		path += "/" + trial.One(d.Dice, "a", "b", "a.b", "a!", "c", string(rune('a'+d.Below(26))))
	}
	return path
}

// Place draws an offset in a file.
func (d Planter) Place() int {
	return trial.One(d.Dice, 0, d.Below(600), d.Below(6000), 512*d.Below(20), 512*138+d.Below(1200), 512*d.Below(300), d.Below(api.MaxFile-5000))
}

// Op draws an operation; it may be refused.
func (d Planter) Op() api.Op {
	switch d.Below(20) {
	case 0, 1:
		return Create(d.Path())
	case 2, 3:
		return Mkdir(d.Path())
	case 4, 5:
		return Symlink(d.Path(), trial.One(d.Dice, "a", "/b", "..", "a.b/c", "/none/x", strings.Repeat("t", 255)))
	case 6, 7:
		return Link(d.Path(), d.Path())
	case 8:
		return Unlink(d.Path())
	case 9:
		return Rmdir(d.Path())
	case 10, 11:
		return Rename(d.Path(), d.Path())
	case 12:
		return Truncate(d.Path(), d.Place())
	case 13:
		return Punch(d.Path(), d.Place(), d.Place())
	}
	return api.Op{Kind: api.OpWrite, Path: d.Path(), Off: d.Place(), Data: d.Bytes(trial.One(d.Dice, 1, d.Below(600), d.Below(5000)))}
}
