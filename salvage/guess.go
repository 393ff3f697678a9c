package salvage

import (
	"iter"

	"vellum/api"
	"vellum/codec"
	"vellum/disk"
)

const (
	superAt    = 0                        // the sector of the superblock
	tableStart = 2                        // the home block of node 1
	perRack    = api.Size / api.NodeBytes // nodes of a block of the table
)

// rack is what lies in a block of the table: the empty node, where there is none or a broken one.
type rack [perRack]api.Node

// geometry is the one by which a disk is read: s, or, if that says nothing, what the disk itself speaks of.
func geometry(d *disk.Disk, s api.Super) (api.Super, api.Errno) {
	if s == (api.Super{}) {
		return guess(d)
	}
	if _, e := codec.Plan(s); e != api.OK || s.Sectors != d.Sectors() {
		return api.Super{}, api.ErrGeometry
	}
	return s, api.OK
}

// guess asks the superblock, and where that is none, the nodes that lie on the disk.
func guess(d *disk.Disk) (api.Super, api.Errno) {
	if s, e := codec.DecodeSuper(sector(d, superAt)); e == api.OK && s.Sectors == d.Sectors() {
		return s, api.OK
	}
	racks := racksOf(d)
	ahead := nodesAhead(racks)
	best, most := api.Super{}, 0
	for s, l := range geometries(d.Sectors()) {
		if !isRoot(racks[l.Home+tableStart][0]) {
			continue
		}
		count := ahead[l.Home+l.Data] - ahead[l.Home+tableStart]
		if count > most || count == most && s.Nodes < best.Nodes { // of several that are alike in both, the first has the least log
			best, most = s, count
		}
	}
	if most == 0 {
		return api.Super{}, api.ErrCorrupt
	}
	return best, api.OK
}

// geometries tells the right ones of so many sectors, by rising logs, each with where things lie by it.
func geometries(sectors int) iter.Seq2[api.Super, api.Layout] {
	return func(yield func(api.Super, api.Layout) bool) {
		for log := api.MinLog; log <= api.MaxLog; log++ {
			for nodes := api.MinNodes; nodes <= api.MaxNodes; nodes += perRack {
				s := api.Super{Sectors: sectors, Log: log, Nodes: nodes}
				if l, e := codec.Plan(s); e == api.OK && !yield(s, l) {
					return
				}
			}
		}
	}
}

func isRoot(n api.Node) bool { return n.Kind == api.KDir && n.Parent == api.Root }

// racksOf takes every sector of a disk for a block of the table.
func racksOf(d *disk.Disk) []rack {
	racks := make([]rack, d.Sectors())
	for at := range racks {
		data := sector(d, at)
		for i := range perRack {
			racks[at][i], _ = codec.DecodeNode(data[i*api.NodeBytes : (i+1)*api.NodeBytes])
		}
	}
	return racks
}

// nodesAhead is how many nodes lie ahead of each rack, and, last of all, ahead of the end.
func nodesAhead(racks []rack) []int {
	ahead := []int{0}
	for at, rack := range racks {
		count := ahead[at]
		for _, n := range rack {
			if n.Kind != api.KNone {
				count++
			}
		}
		ahead = append(ahead, count)
	}
	return ahead
}

// sector is what lies there: the disk has power, and is asked for sectors that it has.
func sector(d *disk.Disk, at int) []byte {
	data, _ := d.Read(at)
	return data
}
