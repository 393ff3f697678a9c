package fs_test

import (
	"maps"
	"math"
	"slices"
	"strings"
	"testing"

	"vellum/api"
	"vellum/disk"
	"vellum/fs"
	"vellum/trial"
)

// drawer draws calls that mean something in the tree of a player, and some that do not.
type drawer struct {
	*trial.Dice
	p *player
}

// known are the paths of all names.
func (d *drawer) known(kind int) []string {
	var paths []string
	var visit func(path string, k int)
	visit = func(path string, k int) {
		for _, e := range d.p.m.entries(k) {
			if kind == 0 || kind == e.Kind {
				paths = append(paths, path+e.Name)
			}
			if e.Kind == api.KDir {
				visit(path+e.Name+"/", e.Node)
			}
		}
	}
	visit("/", 1)
	return paths
}

func (d *drawer) old(kind int) string {
	if list := d.known(kind); len(list) > 0 {
		return trial.One(d.Dice, list...)
	}
	return "/"
}

func (d *drawer) name() string {
	return trial.One(d.Dice, "a", "b", "c", "d", "e", "f", "\xff", "a b", strings.Repeat("n", 54))
}

func (d *drawer) path() string {
	switch d.Below(20) {
	case 0:
		return trial.One(d.Dice, "", "a", "/", "//", "/..", "/.", "/a/..", "/a/../..", "/a\x00", "/"+strings.Repeat("x", 55), strings.Repeat("/a", 512), strings.Repeat("/", 1024), strings.Repeat("/", 1023))
	case 1:
		return d.old(0) + "/"
	case 2:
		return d.old(0) + "/../" + d.name()
	case 3:
		return d.old(0) + "/./" + d.name()
	case 4, 5, 6, 7:
		return d.old(api.KDir) + "/" + d.name()
	case 8, 9, 10:
		return "/" + d.name()
	case 11, 12, 13:
		return d.old(api.KFile)
	case 14:
		return d.old(api.KDir)
	case 15:
		return d.old(api.KLink)
	}
	return d.old(0)
}

func (d *drawer) target() string {
	return trial.One(d.Dice, d.old(0), d.old(api.KDir), d.name(), d.name()+"/"+d.name(), "../"+d.name(), ".", "/", "", "\x00", strings.Repeat("t", 256), strings.Repeat("a/", 127)+"a", "/"+strings.Repeat("y", 60))
}

func (d *drawer) number() int {
	return trial.One(d.Dice, 0, 1, d.Below(100), 512, d.Below(6000), 4096, 5120, d.Below(80000), 512*138, api.MaxFile, api.MaxFile-d.Below(5000), api.MaxFile+1, -1, math.MinInt, math.MaxInt, 65536, 65537)
}

func (d *drawer) node() int {
	if d.Below(6) > 0 {
		return trial.One(d.Dice, 0, 0, 0, -1)
	}
	if held := slices.Sorted(maps.Keys(d.p.m.held)); len(held) > 0 && d.Below(4) > 0 {
		return trial.One(d.Dice, held...)
	}
	return d.Below(10)
}

// likely are paths with which an operation of that kind has something to do.
func (d *drawer) likely(kind int) string {
	switch kind {
	case api.OpLink, api.OpUnlink, api.OpRead, api.OpWrite, api.OpTruncate, api.OpPunch, api.OpRuns:
		return d.old(trial.One(d.Dice, api.KFile, api.KFile, api.KFile, api.KLink))
	case api.OpCreate, api.OpMkdir, api.OpSymlink:
		return trial.One(d.Dice, "", d.old(api.KDir)) + "/" + d.name()
	case api.OpRmdir, api.OpList:
		return d.old(api.KDir)
	case api.OpReadlink, api.OpLstat:
		return d.old(api.KLink)
	}
	return d.old(0)
}

func (d *drawer) op() api.Op {
	op := api.Op{Kind: 1 + d.Below(16), Path: d.path(), Other: d.path(), Node: d.node(), Off: d.number(), N: d.number()}
	switch d.Below(40) {
	case 0:
		op.Kind = trial.One(d.Dice, 0, 17, -1, math.MinInt, math.MaxInt)
	case 1, 2, 3, 4, 5, 6, 7:
		op.Kind = api.OpWrite
	}
	if d.Below(2) == 0 {
		op.Path = d.likely(op.Kind)
	}
	if op.Kind == api.OpSymlink {
		op.Other = d.target()
	}
	if d.Below(3) > 0 {
		op.Off, op.N = d.Below(9000), d.Below(9000)
	}
	op.Data = d.Bytes(trial.One(d.Dice, 0, 1, d.Below(600), d.Below(600), d.Below(5000), d.Below(10000)))
	if d.Below(50) == 0 {
		op.Data = make([]byte, trial.One(d.Dice, 65536, 65537))
	}
	return op
}

func (d *drawer) call() call {
	switch d.Below(30) {
	case 0:
		return call{what: doesSync}
	case 1:
		return call{what: doesCheckpoint}
	case 2, 3:
		return call{what: doesHold, Op: api.Op{Path: d.path()}}
	case 4, 5:
		return call{what: doesRelease, Op: api.Op{Node: max(d.node(), 0)}}
	case 6:
		if d.Below(4) == 0 {
			return call{what: doesMount}
		}
	}
	return call{Op: d.op()}
}

// forms of which one has a single data block, and one so many nodes that blocks run out first.
func forms() []api.Super {
	return []api.Super{small, {Sectors: 25, Log: 18, Nodes: 4}, {Sectors: 40, Log: 18, Nodes: 12}, {Sectors: 70, Log: 25, Nodes: 40}, {Sectors: 150, Log: 18, Nodes: 16}, {Sectors: 400, Log: 60, Nodes: 12}}
}

func TestP1325Drawn(t *testing.T) {
	t.Parallel()
	for seed, form := range forms() {
		t.Run("", func(t *testing.T) {
			t.Parallel()
			dice := trial.NewDice(1325 + seed)
			p := newPlayer(paired(t, form))
			d := &drawer{dice, p}
			done := map[int]int{}
			for range 3000 {
				c := d.call()
				if !p.play(c) {
					t.Fatal("dead without a fuse")
				}
				if c.what == doesOp && p.last.Err == api.OK {
					done[c.Kind]++
				}
				p.room()
				p.forget()
				if d.Below(20) == 0 {
					p.tree()
				}
			}
			for kind := 1; kind <= 16; kind++ {
				links := kind == api.OpSymlink || kind == api.OpReadlink // for which a name and a text need two blocks
				if done[kind] < 3 && !(links && p.m.blocks == 1) {
					t.Errorf("the draw is thin: operation %d was done %d times", kind, done[kind])
				}
			}
		})
	}
}

// Drawn calls with drawn fuses and cuts, also within the Mounts behind a cut, on a disk that goes on from its image now and then.
func TestP1326Drawn(t *testing.T) {
	t.Parallel()
	for seed, form := range forms() {
		t.Run("", func(t *testing.T) {
			t.Parallel()
			dice := trial.NewDice(1326 + seed)
			p := newPlayer(paired(t, form))
			d := &drawer{dice, p}
			cuts := 0
			for range 2500 {
				if d.Below(6) == 0 {
					p.d.Fuse(d.Below(40))
				}
				if p.play(d.call()) && d.Below(15) > 0 {
					continue
				}
				cuts++
				p.d.Crash(drawnPicks(dice))
				for d.Below(3) == 0 {
					p.d.Fuse(d.Below(30))
					f, e := fs.Mount(p.d)
					if p.alive("Mount", e, false) && !p.d.Burnt() {
						p.settle(f)
					}
					p.d.Crash(drawnPicks(dice))
				}
				if d.Below(4) == 0 {
					p.d, _ = disk.Load(p.d.Image())
				}
				p.crash(nil)
			}
			if cuts < 150 {
				t.Errorf("%d cuts are few", cuts)
			}
		})
	}
}
