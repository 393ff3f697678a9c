package span_test

import (
	"testing"

	"vellum/api"
	"vellum/span"
	"vellum/store"
	"vellum/trial"
)

// broken is a pointer of node 1, as held lays it, and what leads by it.
type broken struct {
	what     string
	lay      func(t *testing.T, m *span.Map, pointer int)
	wide     bool // it stands in an indirect block, and may say any number of 32 bits
	on, past []int
}

func field(change func(n *api.Node, pointer int)) func(t *testing.T, m *span.Map, pointer int) {
	return func(t *testing.T, m *span.Map, pointer int) {
		t.Helper()
		n := load(t, m, 1)
		change(&n, pointer)
		is(t, "Save", m.Save(1, n), api.OK)
	}
}

func within(block, place int) func(t *testing.T, m *span.Map, pointer int) {
	return func(t *testing.T, m *span.Map, pointer int) {
		t.Helper()
		lay(t, m, block, place, uint32(pointer))
	}
}

// In held's store the single block is 6, the double block 9, the leaves 10 and 12.
var places = []broken{
	{"Direct[3]", field(func(n *api.Node, p int) { n.Direct[3] = p }), false, []int{3}, []int{0, 2, 4, 10, 138, 16521}},
	{"Direct[9]", field(func(n *api.Node, p int) { n.Direct[9] = p }), false, []int{9}, []int{0, 8, 10, 138, 16521}},
	{"Single", field(func(n *api.Node, p int) { n.Single = p }), false, []int{10, 50, 137}, []int{0, 9, 138, 16521}},
	{"Double", field(func(n *api.Node, p int) { n.Double = p }), false, []int{138, 300, 16521}, []int{0, 9, 10, 137}},
	{"the single block's pointer", within(6, 7), true, []int{17}, []int{0, 9, 10, 16, 18, 137, 138}},
	{"the double block's pointer", within(9, 3), true, []int{138 + 384, 138 + 511}, []int{0, 10, 138, 300, 138 + 383, 138 + 512, 16521}},
	{"a leaf's pointer", within(12, 9), true, []int{266 + 9}, []int{0, 10, 138, 266, 300, 16521}},
}

// bad are the numbers of no data block, where Data is 4 and Blocks 43.
func (b broken) bad() []int {
	list := []int{1, 2, 3, 43, 44, 255, 256, 2047}
	if b.wide {
		list = append(list, 2048, 1<<8+5, 1<<16+5, 1<<24+5, 1<<31, 1<<31+5, 1<<32-1)
	}
	return list
}

// corrupt asks that a call is refused with ErrCorrupt, and so is all from then on; then it begins anew.
func corrupt(t *testing.T, what string, s *store.Store, m *span.Map, call func(m *span.Map)) *span.Map {
	t.Helper()
	call(m)
	is(t, what, m.State(), api.ErrCorrupt)
	wheres(t, m, 2, 0, 0, api.ErrCorrupt)
	is(t, "Abort", m.Abort(), api.OK)
	return begun(t, s)
}

// A pointer that names no data block is told by every call on whose way it lies, and by no other but Punch and Cut.
func TestP807OnTheWay(t *testing.T) {
	t.Parallel()
	for _, b := range places {
		for _, pointer := range b.bad() {
			_, s, m := held(t)
			b.lay(t, m, pointer)
			m = next(t, s, m)
			for _, index := range b.past {
				_, e := m.Where(1, index)
				is(t, b.what+", Where past it", e, api.OK)
				_, _, e = m.Grow(1, index)
				is(t, b.what+", Grow past it", e, api.OK)
				if e := m.Punch(1, index, index+1); e != api.OK && e != api.ErrCorrupt {
					is(t, b.what+", Punch past it", e, api.OK)
				}
				is(t, "Abort", m.Abort(), api.OK)
				m = begun(t, s)
			}
			for _, index := range b.on {
				m = corrupt(t, b.what, s, m, func(m *span.Map) { wheres(t, m, 1, index, 0, api.ErrCorrupt) })
				m = corrupt(t, b.what, s, m, func(m *span.Map) { grows(t, m, 1, index, 0, false, api.ErrCorrupt) })
				m = corrupt(t, b.what, s, m, func(m *span.Map) { punches(t, m, 1, index, index+1, api.ErrCorrupt) })
				m = corrupt(t, b.what, s, m, func(m *span.Map) { punches(t, m, 1, 0, index+1, api.ErrCorrupt) })
				m = corrupt(t, b.what, s, m, func(m *span.Map) { cutFrom(t, m, 1, index, api.ErrCorrupt) })
			}
			m = corrupt(t, b.what, s, m, func(m *span.Map) { cutFrom(t, m, 1, 0, api.ErrCorrupt) })
			m = corrupt(t, b.what, s, m, func(m *span.Map) { runsRefused(t, m, 1, api.ErrCorrupt) })
			runs(t, m, 2, api.Run{From: 0, To: 1}) // of another node
			grows(t, m, 2, 138, 17, true, api.OK)
		}
	}
}

// The first and the last data block may be named.
func TestP807Edges(t *testing.T) {
	for _, b := range places {
		for _, pointer := range []int{4, 42} {
			_, _, m := held(t)
			b.lay(t, m, pointer)
			for _, index := range b.on {
				if _, e := m.Where(1, index); e != api.OK {
					t.Fatalf("%s: Where(1, %d): %v", b.what, index, e)
				}
			}
			if len(b.on) == 1 {
				wheres(t, m, 1, b.on[0], pointer, api.OK)
				grows(t, m, 1, b.on[0], pointer, false, api.OK)
			}
		}
	}
}

// A count or pointers that cannot be right spoil the transaction, whenever it is told: what was changed by then is of no account.
func TestP807Counts(t *testing.T) {
	for _, c := range []struct {
		what string
		n    api.Node
		call func(m *span.Map) api.Errno
	}{
		{"none owned", api.Node{Kind: 1, Direct: [10]int{4}}, punching(1, 0, 1)},
		{"one owned of two", api.Node{Kind: 1, Owned: 1, Direct: [10]int{4, 5}}, punching(1, 0, 16522)},
		{"one named twice", api.Node{Kind: 1, Owned: 2, Direct: [10]int{4, 4}}, punching(1, 0, 2)},
		{"a free one", api.Node{Kind: 1, Owned: 2, Direct: [10]int{30}}, punching(1, 0, 2)},
		{"a free single block", api.Node{Kind: 1, Owned: 2, Single: 42}, punching(1, 10, 11)},
		{"too many owned", api.Node{Kind: 1, Owned: 2048}, growing(1, 5)},
		{"too many owned", api.Node{Kind: 1, Owned: 2047}, growing(1, 50)},
	} {
		_, s, m := ready(t)
		is(t, "Put", m.Put(42, indirect(map[int]int{0: 4})), api.OK)
		is(t, "Save", m.Save(1, c.n), api.OK)
		m = next(t, s, m)
		was := blocks(t, m)
		is(t, c.what, c.call(m), api.ErrCorrupt)
		asks(t, m, api.ErrCorrupt)
		is(t, "Abort", m.Abort(), api.OK)
		if list := unlike(was, blocks(t, begun(t, s))); list != nil {
			t.Fatalf("P7: %s: %v are unlike behind the Abort", c.what, list)
		}
	}
}

// An indirect block that names itself, and one that two name, have an end too.
func TestP807Loops(t *testing.T) {
	_, s, m := held(t)
	loop := map[int]int{}
	for place := range 128 {
		loop[place] = 20
	}
	is(t, "Put", m.Put(20, indirect(loop)), api.OK)
	is(t, "Save", m.Save(1, api.Node{Kind: 1, Owned: 9, Single: 20, Double: 20}), api.OK)
	m = next(t, s, m)
	runs(t, m, 1, api.Run{From: 10, To: 16522})
	wheres(t, m, 1, 16521, 20, api.OK)
	grows(t, m, 1, 777, 20, false, api.OK)
	_ = corrupt(t, "loop", s, m, func(m *span.Map) { cutFrom(t, m, 1, 0, api.ErrCorrupt) })
}

// drawer plays drawn calls over drawn junk.
type drawer struct {
	*trial.Junk[*span.Map]
	t *testing.T
}

func (j *drawer) index() int {
	d := j.Dice
	return trial.One(d, d.Below(10), 10+d.Below(128), 138+d.Below(16384), seams[d.Below(len(seams))], 10, 137, 138, 16521)
}

// call plays one drawn call, and asks for what is answered beside its error.
func (j *drawer) call() api.Errno {
	j.t.Helper()
	d := j.Dice
	number := 1 + d.Below(4)
	switch d.Below(5) {
	case 0:
		b, e := j.View.Where(number, j.index())
		if b != 0 && (e != api.OK || b < 4 || b > 42) {
			j.t.Fatalf("P807: Where: %d, %v", b, e)
		}
		return e
	case 1:
		b, fresh, e := j.View.Grow(number, j.index())
		if e != api.OK && (b != 0 || fresh) || e == api.OK && (b < 4 || b > 42) {
			j.t.Fatalf("P807: Grow: %d, %v, %v", b, fresh, e)
		}
		return e
	case 2:
		list, e := j.View.Runs(number)
		if e != api.OK && len(list) > 0 {
			j.t.Fatalf("P807: Runs: %v, %v", list, e)
		}
		j.mayBe(list)
		return e
	case 3:
		return j.View.Cut(number, j.index())
	default:
		from := j.index()
		return j.View.Punch(number, from, trial.One(d, from, from+1, max(from, j.index())))
	}
}

// mayBe asks that rows rise, that none touches the next, and that all lie below the end.
func (j *drawer) mayBe(list []api.Run) {
	j.t.Helper()
	end := -1
	for _, r := range list {
		if r.From <= end || r.To <= r.From || r.To > api.MaxIndex {
			j.t.Fatalf("P807: Runs: %v", list)
		}
		end = r.To
	}
}

// Over junk every call ends; what is refused changes nothing, or spoils the transaction.
func TestP807Drawn(t *testing.T) {
	t.Parallel()
	d, s, m := fresh(t, small, 3)
	is(t, "Abort", m.Abort(), api.OK)
	j := &drawer{t: t}
	j.Junk = &trial.Junk[*span.Map]{
		T:    t,
		Dice: newDice(807),
		Disk: d,
		On:   on,
		Call: j.call,
		Dead: func(m *span.Map, want api.Errno) { wheres(t, m, 1, 0, 0, want) },
	}
	answers := j.Play(s, 6000)
	for _, e := range []api.Errno{api.OK, api.ErrNode, api.ErrCorrupt, api.ErrNoSpace} {
		if answers[e] < 100 {
			t.Errorf("the draw is thin: %v was answered %d times", e, answers[e])
		}
	}
}
