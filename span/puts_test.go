package span_test

import (
	"maps"
	"slices"
	"testing"

	"vellum/api"
	"vellum/disk"
	"vellum/span"
	"vellum/store"
	"vellum/trial"
)

// put is a call, and the blocks that it puts.
type put = trial.Call[*span.Map]

func growing(number, index int) func(m *span.Map) api.Errno {
	return func(m *span.Map) api.Errno { _, _, e := m.Grow(number, index); return e }
}

func punching(number, from, to int) func(m *span.Map) api.Errno {
	return func(m *span.Map) api.Errno { return m.Punch(number, from, to) }
}

// ready is the store that held tells, with the free blocks from 15 on full of bytes: so a fresh block is put when it is cleared. Of node 1 the single block is 6 (with the data blocks 7 and 8), the double block 9, the leaves 10 (with 11) and 12 (with 13).
func ready(t *testing.T) (*disk.Disk, *store.Store, *span.Map) {
	t.Helper()
	d, s, m := held(t)
	for from := 15; from < 43; from += 14 {
		trial.PutMany(t, m, from, 14)
		m = next(t, s, m)
	}
	return d, s, m
}

var puts = []put{
	{What: "Where", Do: func(m *span.Map) api.Errno { _, e := m.Where(1, 300); return e }},
	{What: "Where in a hole", Do: func(m *span.Map) api.Errno { _, e := m.Where(1, 16521); return e }},
	{What: "Runs", Do: func(m *span.Map) api.Errno { _, e := m.Runs(1); return e }},
	{What: "Grow where a block is", Do: growing(1, 300)},
	{What: "Grow at a direct pointer", Puts: []int{0, 2, 15}, Do: growing(1, 3)},
	{What: "Grow in the single block", Puts: []int{0, 2, 6, 15}, Do: growing(1, 11)},
	{What: "Grow with a single block", Puts: []int{0, 2, 15, 16}, Do: growing(2, 137)},
	{What: "Grow in a leaf", Puts: []int{0, 2, 10, 15}, Do: growing(1, 265)},
	{What: "Grow with a leaf", Puts: []int{0, 2, 9, 15, 16}, Do: growing(1, 16521)},
	{What: "Grow with a double block", Puts: []int{0, 2, 15, 16, 17}, Do: growing(2, 138)},
	{What: "Grow of a node without pointers", Puts: []int{0, 2, 15}, Do: growing(3, 9)},
	{What: "Punch at a direct pointer", Puts: []int{0, 2}, Do: punching(1, 0, 9)},
	{What: "Punch in the single block", Puts: []int{0, 2, 6}, Do: punching(1, 10, 137)},
	{What: "Punch of the single block", Puts: []int{0, 2}, Do: punching(1, 10, 138)},
	{What: "Punch of a leaf", Puts: []int{0, 2, 9}, Do: punching(1, 138, 266)},
	{What: "Punch of the double block", Puts: []int{0, 2}, Do: punching(1, 138, 301)},
	{What: "Punch over all seams", Puts: []int{0, 2, 6, 9}, Do: punching(1, 11, 139)},
	{What: "Punch of all", Puts: []int{0, 2}, Do: punching(1, 0, 16522)},
	{What: "Punch of holes", Do: punching(1, 11, 137)},
	{What: "Punch of no index", Do: punching(1, 10, 10)},
	{What: "Cut", Puts: []int{0, 2, 9}, Do: func(m *span.Map) api.Errno { return m.Cut(1, 300) }},
	{What: "Cut of holes", Do: func(m *span.Map) api.Errno { return m.Cut(1, 301) }},
	{What: "Grow of none", Do: growing(4, 0), Want: api.ErrNode},
	{What: "Grow of no number", Do: growing(9, 0), Want: api.ErrRange},
	{What: "Grow at no index", Do: growing(1, 16522), Want: api.ErrRange},
	{What: "Punch of none", Do: punching(4, 0, 1), Want: api.ErrNode},
	{What: "Punch of no number", Do: punching(0, 0, 1), Want: api.ErrRange},
	{What: "Punch to no index", Do: punching(1, 0, 16523), Want: api.ErrRange},
}

func putting(t *testing.T) *trial.Puts[*span.Map] {
	p := &trial.Puts[*span.Map]{
		T:       t,
		Ready:   func() (*disk.Disk, *store.Store, *span.Map) { return ready(t) },
		Refused: func(m *span.Map, want api.Errno) { asks(t, m, want) },
		Calls:   puts,
	}
	for b := 18; b < 43; b++ { // behind the blocks that may be taken
		p.Others = append(p.Others, b)
	}
	return p
}

func TestP802P803Puts(t *testing.T) { putting(t).Blocks() }
func TestP806Budget(t *testing.T)   { putting(t).Budget() }

// roomIs asks how many blocks the transaction may still put: those from that one on are none that it has put.
func roomIs(t *testing.T, m *span.Map, from, room int) {
	t.Helper()
	for b := from; b <= from+room; b++ {
		want := api.OK
		if b == from+room {
			want = api.ErrBudget
		}
		is(t, "Put", m.Put(b, fill('w')), want)
	}
}

// A fresh block is put as zeros at once: a single block that in the end holds what it held before the transaction was put all the same. One that held zeros already is not.
func TestP806PutAsZeros(t *testing.T) {
	_, s, m := fresh(t, small, 1)
	grows(t, m, 1, 10, 5, true, api.OK)
	m = next(t, s, m)
	was := blocks(t, m)
	punches(t, m, 1, 10, 11, api.OK)
	grows(t, m, 1, 10, 5, true, api.OK)
	if list := unlike(was, blocks(t, m)); list != nil {
		t.Fatalf("the blocks %v are unlike", list)
	}
	roomIs(t, m, 10, 16-3) // the bitmap, the table's block, the single block

	is(t, "Abort", m.Abort(), api.OK)
	m = begun(t, s)
	grows(t, m, 1, 0, 6, true, api.OK)
	roomIs(t, m, 10, 16-2)
}

// What is freed is not put, however much it is: five blocks at most where two leaves, the double block and those two are changed.
func TestP806Five(t *testing.T) {
	_, s, m, at := many(t)
	n := load(t, m, 1)
	data := slices.Sorted(maps.Values(at))
	first, last := entry(t, m, n.Double, 0), entry(t, m, n.Double, 127)
	for _, c := range []struct {
		from, to int
		puts     []int
	}{
		{139, 16395, []int{0, 2, n.Double, first, last}},
		{11, 16521, []int{0, 2, n.Single, n.Double, last}},
		{0, 16521, []int{0, 2, n.Double, last}},
		{139, 16522, []int{0, 2, n.Double, first}},
		{9, 265, []int{0, 2, first}},
		{0, 16522, []int{0, 2}},
	} {
		slices.Sort(c.puts)
		was := blocks(t, m)
		punches(t, m, 1, c.from, c.to, api.OK)
		if list := unlike(was, blocks(t, m)); !slices.Equal(list, c.puts) {
			t.Fatalf("Punch(1, %d, %d) has changed %v, want %v", c.from, c.to, list, c.puts)
		}
		is(t, "Abort", m.Abort(), api.OK)
		m = begun(t, s)
		for _, b := range data[:16-len(c.puts)] { // the bytes of its data blocks are not this layer's business
			is(t, "Put", m.Put(b, fill('v')), api.OK)
		}
		punches(t, m, 1, c.from, c.to, api.OK)
		is(t, "Abort", m.Abort(), api.OK)
		m = begun(t, s)
	}
}

// Without room, and without space or over junk besides: that goes ahead.
func TestP806Last(t *testing.T) {
	_, s, m := ready(t)
	lay(t, m, 6, 127, 43)
	lay(t, m, 10, 5, 1)
	is(t, "Put", m.Put(0, fill(255)), api.OK)
	m = next(t, s, m)
	for _, c := range []put{
		{What: "Grow", Do: growing(1, 1), Want: api.ErrNoSpace},
		{What: "Grow", Do: growing(2, 138), Want: api.ErrNoSpace},
		{What: "Grow", Do: growing(1, 137), Want: api.ErrCorrupt},
		{What: "Punch", Do: punching(1, 0, 138), Want: api.ErrCorrupt},
		{What: "Punch", Do: punching(1, 138, 144), Want: api.ErrCorrupt},
		{What: "Cut", Do: func(m *span.Map) api.Errno { return m.Cut(1, 0) }, Want: api.ErrCorrupt},
		{What: "Punch", Do: punching(2, 0, 1), Want: api.ErrBudget},
	} {
		for b := range 16 {
			is(t, "Put", m.Put(42-b, fill('u')), api.OK)
		}
		is(t, c.What, c.Do(m), c.Want)
		asks(t, m, c.Want)
		is(t, "Abort", m.Abort(), api.OK)
		m = begun(t, s)
	}
}

// With some blocks free, but fewer than it takes, and without room for the first of them: it counts first.
func TestP806CountsFirst(t *testing.T) {
	for _, c := range []struct{ index, takes int }{{10, 2}, {137, 2}, {138, 3}, {16521, 3}} {
		for free := range c.takes + 1 {
			_, s, m := ready(t)
			for left(t, m) > free {
				_, e := m.TakeBlock()
				is(t, "TakeBlock", e, api.OK)
			}
			m = next(t, s, m)
			for b := range 16 {
				is(t, "Put", m.Put(42-b, fill('t')), api.OK)
			}
			want := api.ErrNoSpace
			if free == c.takes {
				want = api.ErrBudget
			}
			grows(t, m, 2, c.index, 0, false, want)
			asks(t, m, want)
		}
	}
}
