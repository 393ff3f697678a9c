package check_test

import (
	"math"
	"testing"

	"vellum/api"
	"vellum/check"
)

func says(t *testing.T, f api.Fault, want string) {
	t.Helper()
	if got := check.Say(f); got != want {
		t.Errorf("P1205: Say(%+v): %q, want %q", f, got, want)
	}
}

func TestP1205Words(t *testing.T) {
	for kind, want := range map[int]string{
		api.FNode:     "node 21: broken slot",
		api.FRoot:     "node 1 is no root",
		api.FShape:    "node 21: size 54 may not be",
		api.FPointer:  "node 21: index 32, depth 54: pointer 43 out of range",
		api.FTwice:    "node 21: index 32, depth 54: block 43 is owned already",
		api.FBeyond:   "node 21: index 32: block 43 behind the size",
		api.FBare:     "node 21: index 32, depth 54: block 43 has no pointer",
		api.FOwned:    "node 21: owns 54",
		api.FTail:     "node 21: index 32: block 43 has bytes behind the size",
		api.FBlockBit: "block 43: bit 54",
		api.FNodeBit:  "node 21: bit 54",
		api.FHole:     "node 21: index 32: hole in a directory",
		api.FEntry:    "node 21: slot 32: broken entry",
		api.FName:     "node 21: slot 32: a name twice",
		api.FTarget:   "node 21: slot 32: entry of node 54",
		api.FTrail:    "node 21: last block without an entry",
		api.FText:     "node 21: text with a zero",
		api.FLinks:    "node 21: links should be 54",
		api.FParent:   "node 21: hangs wrong 54",
		api.FLost:     "node 21: without a name",
		api.FLoop:     "node 21: not below the root",
	} {
		says(t, api.Fault{Kind: kind, Node: 21, Index: 32, Block: 43, Other: 54}, want)
	}
}

func TestP1205NoFault(t *testing.T) {
	for _, kind := range []int{0, -1, 22, 23, 1 << 32, math.MinInt, math.MaxInt} {
		says(t, api.Fault{Kind: kind, Node: 1, Index: 2, Block: 3, Other: 4}, "no fault")
	}
}

// The numbers are told as they are, those too that no fault has.
func TestP1205Numbers(t *testing.T) {
	says(t, api.Fault{Kind: api.FRoot}, "node 1 is no root")
	says(t, api.Fault{Kind: api.FNode}, "node 0: broken slot")
	says(t, api.Fault{Kind: api.FPointer, Node: -1, Index: math.MinInt, Block: math.MaxInt, Other: -2}, "node -1: index -9223372036854775808, depth -2: pointer 9223372036854775807 out of range")
	says(t, api.Fault{Kind: api.FTarget, Node: 1024, Index: 132175, Other: 1000}, "node 1024: slot 132175: entry of node 1000")
	says(t, api.Fault{Kind: api.FTwice, Node: 1, Block: 1<<32 - 1}, "node 1: index 0, depth 0: block 4294967295 is owned already")
}
