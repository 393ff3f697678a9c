package salvage

import (
	"strconv"

	"vellum/api"
)

// Say tells a loss in words.
func Say(l api.Loss) string {
	node := "node " + strconv.Itoa(l.Node)
	index, slot := node+": index "+strconv.Itoa(l.Index), node+": slot "+strconv.Itoa(l.Index)
	block, other := strconv.Itoa(l.Block), strconv.Itoa(l.Other)
	switch l.Kind {
	case api.LSuper:
		return "no superblock"
	case api.LLog:
		return "no log: error " + other
	case api.LRecord:
		return "record " + strconv.Itoa(l.Index) + " broken: " + other + " let go"
	case api.LRoot:
		return "no root"
	case api.LNode:
		return node + ": broken slot"
	case api.LPointer:
		return index + ", depth " + other + ": pointer " + block + " out of range"
	case api.LTwice:
		return index + ", depth " + other + ": block " + block + " is another's"
	case api.LBeyond:
		return index + ": block " + block + " behind the size"
	case api.LTail:
		return index + ": block " + block + " has bytes behind the size"
	case api.LHole:
		return node + ": " + other + " holes in a directory"
	case api.LEntry:
		return slot + ": broken entry"
	case api.LName:
		return slot + ": a name twice"
	case api.LTarget:
		return slot + ": entry of node " + other
	case api.LText:
		return node + ": no text"
	case api.LAgain:
		return slot + ": directory " + other + " once more"
	case api.LDeep:
		return slot + ": the path of node " + other + " is too long"
	case api.LLoose:
		return node + ": loose"
	case api.LMany:
		return other + " items too many"
	}
	return "no loss"
}
