package check

import (
	"strconv"

	"vellum/api"
)

// Say tells a fault in words.
func Say(f api.Fault) string {
	node := "node " + strconv.Itoa(f.Node)
	index, slot := node+": index "+strconv.Itoa(f.Index), node+": slot "+strconv.Itoa(f.Index)
	block, other := "block "+strconv.Itoa(f.Block), strconv.Itoa(f.Other)
	switch f.Kind {
	case api.FNode:
		return node + ": broken slot"
	case api.FRoot:
		return "node 1 is no root"
	case api.FShape:
		return node + ": size " + other + " may not be"
	case api.FPointer:
		return index + ", depth " + other + ": pointer " + strconv.Itoa(f.Block) + " out of range"
	case api.FTwice:
		return index + ", depth " + other + ": " + block + " is owned already"
	case api.FBeyond:
		return index + ": " + block + " behind the size"
	case api.FBare:
		return index + ", depth " + other + ": " + block + " has no pointer"
	case api.FOwned:
		return node + ": owns " + other
	case api.FTail:
		return index + ": " + block + " has bytes behind the size"
	case api.FBlockBit:
		return block + ": bit " + other
	case api.FNodeBit:
		return node + ": bit " + other
	case api.FHole:
		return index + ": hole in a directory"
	case api.FEntry:
		return slot + ": broken entry"
	case api.FName:
		return slot + ": a name twice"
	case api.FTarget:
		return slot + ": entry of node " + other
	case api.FTrail:
		return node + ": last block without an entry"
	case api.FText:
		return node + ": text with a zero"
	case api.FLinks:
		return node + ": links should be " + other
	case api.FParent:
		return node + ": hangs wrong " + other
	case api.FLost:
		return node + ": without a name"
	case api.FLoop:
		return node + ": not below the root"
	}
	return "no fault"
}
