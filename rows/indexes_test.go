package rows_test

import (
	"math"
	"slices"
	"testing"

	"vellum/api"
	"vellum/rows"
)

// runs are rows by their ends.
func runs(ends ...int) []api.Run {
	var list []api.Run
	for pair := range slices.Chunk(ends, 2) {
		list = append(list, api.Run{From: pair[0], To: pair[1]})
	}
	return list
}

func TestRise(t *testing.T) {
	for i, c := range []struct {
		runs []api.Run
		want bool
	}{
		{nil, true}, {runs(0, 1), true}, {runs(5, 9), true}, {runs(0, 1, 2, 3, 9, 12), true}, {runs(0, math.MaxInt), true},
		{runs(0, 0), false}, {runs(3, 2), false}, {runs(-1, 1), false}, {runs(math.MinInt, 1), false}, {runs(0, 1, 1, 2), false}, {runs(0, 2, 1, 3), false}, {runs(2, 3, 0, 1), false}, {runs(0, 1, 2, 2), false}, {runs(0, 1, 2, 3, 3, 4), false},
	} {
		if got := rows.Rise(c.runs); got != c.want {
			t.Errorf("row %d: %v", i, got)
		}
	}
}

func TestCount(t *testing.T) {
	if n := rows.Count(nil); n != 0 {
		t.Errorf("of none: %d", n)
	}
	if n := rows.Count(runs(0, 1, 3, 8)); n != 6 {
		t.Errorf("of six: %d", n)
	}
}

func TestJoin(t *testing.T) {
	var list []api.Run
	for _, index := range []int{0, 1, 2, 4, 6, 7, 9} {
		list = rows.Join(list, index)
	}
	if want := runs(0, 3, 4, 5, 6, 8, 9, 10); !slices.Equal(list, want) || !rows.Rise(list) {
		t.Errorf("%v, want %v", list, want)
	}
}
