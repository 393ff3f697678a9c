package check

import (
	"slices"

	"vellum/api"
)

// standing is how a node stands in the tree.
type standing struct {
	number  int
	node    api.Node
	names   int  // the entries that name it
	in      int  // the directory of the last of them
	dirs    int  // the entries of directories in it
	reached bool // from the root
}

// tree is phase 5: nothing is left to be read.
func (im *image) tree() []api.Fault {
	all := im.standings()
	standing := func(number int) standing { return all[number] }
	return slices.Concat(team(im.workers, im.numbers, standing, lookAtStanding)...)
}

// standings are those of the nodes, by their numbers.
func (im *image) standings() []standing {
	all := make([]standing, len(im.nodes))
	for number, n := range im.nodes {
		all[number].number, all[number].node = number, n
		for _, entry := range im.entries[number] {
			all[entry.Node].names++
			all[entry.Node].in = number
			if entry.Kind == api.KDir {
				all[number].dirs++
			}
		}
	}
	im.reach(all)
	return all
}

// reach goes from the root through all directories to which entries lead.
func (im *image) reach(all []standing) {
	all[api.Root].reached = true
	for ahead := []int{api.Root}; len(ahead) > 0; ahead = ahead[1:] {
		for _, entry := range im.entries[ahead[0]] {
			if entry.Kind == api.KDir && !all[entry.Node].reached {
				all[entry.Node].reached = true
				ahead = append(ahead, entry.Node)
			}
		}
	}
}

// lookAtStanding tells what is wrong at a node: the faults of the tree name it, and a number beside it at most.
func lookAtStanding(s standing) []api.Fault {
	var faults []api.Fault
	tell := func(wrong bool, kind, other int) {
		if wrong {
			faults = append(faults, api.Fault{Kind: kind, Node: s.number, Other: other})
		}
	}
	switch {
	case s.node.Kind == api.KFile:
		tell(s.node.Links != s.names, api.FLinks, s.names)
	case s.node.Kind == api.KLink:
		tell(s.names > 1 || s.names == 1 && s.node.Links != 1, api.FLinks, s.names)
		tell(s.names == 0, api.FLost, 0)
	case s.number == api.Root:
		tell(s.node.Links != 2+s.dirs, api.FLinks, 2+s.dirs)
		tell(s.names > 0, api.FParent, s.names)
	default:
		tell(s.node.Links != 2+s.dirs, api.FLinks, 2+s.dirs)
		tell(s.names > 1, api.FParent, s.names)
		tell(s.names == 1 && s.in != s.node.Parent, api.FParent, 0)
		tell(s.names == 0, api.FLost, 0)
		tell(s.names > 0 && !s.reached, api.FLoop, 0)
	}
	return faults
}
