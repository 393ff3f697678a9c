package salvage_test

import (
	"math"
	"testing"

	"vellum/api"
	"vellum/salvage"
)

func says(t *testing.T, l api.Loss, want string) {
	t.Helper()
	if got := salvage.Say(l); got != want {
		t.Errorf("P1704: Say(%+v): %q, want %q", l, got, want)
	}
}

// words is the chapter's table, for a loss of node 21, index 32, block 43, other 54.
func words() []string {
	return []string{
		"no superblock",
		"no log: error 54",
		"record 32 broken: 54 let go",
		"no root",
		"node 21: broken slot",
		"node 21: index 32, depth 54: pointer 43 out of range",
		"node 21: index 32, depth 54: block 43 is another's",
		"node 21: index 32: block 43 behind the size",
		"node 21: index 32: block 43 has bytes behind the size",
		"node 21: 54 holes in a directory",
		"node 21: slot 32: broken entry",
		"node 21: slot 32: a name twice",
		"node 21: slot 32: entry of node 54",
		"node 21: no text",
		"node 21: slot 32: directory 54 once more",
		"node 21: slot 32: the path of node 54 is too long",
		"node 21: loose",
		"54 items too many",
	}
}

func TestP1704Words(t *testing.T) {
	for i, want := range words() {
		says(t, api.Loss{Kind: i + 1, Node: 21, Index: 32, Block: 43, Other: 54}, want)
	}
	says(t, api.Loss{Kind: 17, Node: 12}, "node 12: loose")
}

func TestP1704NoLoss(t *testing.T) {
	for _, kind := range []int{0, -1, 19, 20, 1 << 32, 1<<32 + 1, math.MinInt, math.MaxInt} {
		says(t, api.Loss{Kind: kind, Node: 1, Index: 2, Block: 3, Other: 4}, "no loss")
	}
}

// The numbers are told as they are, those too that no loss has.
func TestP1704Numbers(t *testing.T) {
	says(t, api.Loss{Kind: api.LNode}, "node 0: broken slot")
	says(t, api.Loss{Kind: api.LPointer, Node: -1, Index: math.MinInt, Block: math.MaxInt, Other: -2}, "node -1: index -9223372036854775808, depth -2: pointer 9223372036854775807 out of range")
	says(t, api.Loss{Kind: api.LTarget, Node: 1024, Index: 132175, Other: 1000}, "node 1024: slot 132175: entry of node 1000")
	says(t, api.Loss{Kind: api.LTwice, Node: 1, Block: 1<<32 - 1}, "node 1: index 0, depth 0: block 4294967295 is another's")
	says(t, api.Loss{Kind: api.LMany, Other: -5}, "-5 items too many")
}
