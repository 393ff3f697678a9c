package site

import (
	"bytes"
	"slices"

	"vellum/api"
	"vellum/disk"
	"vellum/fs"
	"vellum/trial"
)

// Ground is a disk, and the file system on it.
type Ground struct {
	T trial.T
	D *disk.Disk
	F *fs.FS
}

// OnDisk is a ground on a disk that has a file system.
func OnDisk(t trial.T, d *disk.Disk) *Ground {
	t.Helper()
	return &Ground{t, d, Mounted(t, d)}
}

// Fresh is a ground with an empty file system.
func Fresh(t trial.T, form api.Super) *Ground {
	t.Helper()
	return OnDisk(t, Made(t, form))
}

// Copied is a ground on a disk of its own that holds what is durable on this one.
func (g *Ground) Copied() *Ground {
	g.T.Helper()
	return OnDisk(g.T, Loaded(g.T, g.D.Image()))
}

// Synced makes all durable, so that copies hold it.
func (g *Ground) Synced() {
	g.T.Helper()
	trial.Is(g.T, "Sync", g.F.Sync(), api.OK)
}

// All does operations that are not refused.
func (g *Ground) All(ops ...api.Op) {
	g.T.Helper()
	All(g.T, g.F, ops...)
}

// Whole asks that a check tells no fault.
func (g *Ground) Whole() api.Report {
	g.T.Helper()
	report, e := g.F.Check(2)
	if e != api.OK || report.Phase != 0 {
		g.T.Fatalf("P1201: Check: %+v, %v", report, e)
	}
	return report
}

// Unchanged asks, behind what is done, that no disk was written and none was flushed, that as much is free as was, and that the same nodes are held.
func (g *Ground) Unchanged(what string, do func()) {
	g.T.Helper()
	was, image, held := g.D.Counts(), g.D.Image(), g.Held()
	blocks, nodes, dead := g.F.Space()
	do()
	now := g.D.Counts()
	if now.Writes != was.Writes || now.Flushes != was.Flushes || now.Pending != was.Pending || now.Refused != was.Refused || !bytes.Equal(g.D.Image(), image) {
		g.T.Fatalf("%s: the disk was %+v and is %+v", what, was, now)
	}
	if b, n, e := g.F.Space(); b != blocks || n != nodes || e != dead {
		g.T.Fatalf("%s: Space is %d, %d, %v, and was %d, %d, %v", what, b, n, e, blocks, nodes, dead)
	}
	if now := g.Held(); !slices.Equal(now, held) {
		g.T.Fatalf("%s: the nodes %v are held, and %v were", what, now, held)
	}
}

// Held are the nodes that are held.
func (g *Ground) Held() []int {
	var list []int
	for node := 1; node <= 120; node++ {
		if g.F.Do(api.Op{Kind: api.OpStat, Node: node}).Err == api.OK {
			list = append(list, node)
		}
	}
	return list
}
