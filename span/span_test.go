package span_test

import (
	"bytes"
	"encoding/binary"
	"math"
	"slices"
	"testing"

	"vellum/api"
	"vellum/disk"
	"vellum/node"
	"vellum/pool"
	"vellum/span"
	"vellum/store"
	"vellum/trial"
)

var (
	small = api.Super{Sectors: 64, Log: 18, Nodes: 8}   // of the chapter's examples: Blocks 43, Data 4
	large = api.Super{Sectors: 2048, Log: 18, Nodes: 4} // Blocks 2027, Data 3
)

// Short names of what the tests of all views share.
var (
	is        = trial.Is
	fill      = trial.Fill
	formatted = trial.Formatted
	opened    = trial.Opened
	newDice   = trial.NewDice
	unlike    = trial.Unlike
	get       = trial.Get
	blocks    = trial.Blocks
	left      = trial.Left
	indirect  = trial.Indirect
	ownedBy   = trial.OwnedBy
	rows      = trial.Rows
)

// seams are the indexes at which another pointer begins to lead the way, and those beside them.
var seams = []int{0, 1, 5, 8, 9, 10, 11, 12, 100, 136, 137, 138, 139, 264, 265, 266, 267, 393, 394, 8000, 16392, 16393, 16394, 16395, 16520, 16521}

// far are numbers that are no index.
var far = []int{math.MinInt, math.MinInt + 1, -16522, -1, 16522, 16523, 1 << 32, math.MaxInt - 1, math.MaxInt}

func wheres(t *testing.T, m *span.Map, number, index, want int, wantE api.Errno) {
	t.Helper()
	if b, e := m.Where(number, index); b != want || e != wantE {
		t.Fatalf("Where(%d, %d): %d, %v, want %d, %v", number, index, b, e, want, wantE)
	}
}

func grows(t *testing.T, m *span.Map, number, index, want int, wantFresh bool, wantE api.Errno) {
	t.Helper()
	if b, fresh, e := m.Grow(number, index); b != want || fresh != wantFresh || e != wantE {
		t.Fatalf("Grow(%d, %d): %d, %v, %v, want %d, %v, %v", number, index, b, fresh, e, want, wantFresh, wantE)
	}
}

// grown takes a block where there is none.
func grown(t *testing.T, m *span.Map, number int, indexes ...int) {
	t.Helper()
	for _, index := range indexes {
		if b, fresh, e := m.Grow(number, index); b < m.Layout().Data || !fresh || e != api.OK {
			t.Fatalf("Grow(%d, %d): %d, %v, %v", number, index, b, fresh, e)
		}
	}
}

func punches(t *testing.T, m *span.Map, number, from, to int, want api.Errno) {
	t.Helper()
	if e := m.Punch(number, from, to); e != want {
		t.Fatalf("Punch(%d, %d, %d): %v, want %v", number, from, to, e, want)
	}
}

func cutFrom(t *testing.T, m *span.Map, number, from int, want api.Errno) {
	t.Helper()
	if e := m.Cut(number, from); e != want {
		t.Fatalf("Cut(%d, %d): %v, want %v", number, from, e, want)
	}
}

func runs(t *testing.T, m *span.Map, number int, want ...api.Run) {
	t.Helper()
	if list, e := m.Runs(number); !slices.Equal(list, want) || e != api.OK {
		t.Fatalf("Runs(%d): %v, %v, want %v", number, list, e, want)
	}
}

// runsRefused asks for the error of Runs, and no rows beside it.
func runsRefused(t *testing.T, m *span.Map, number int, want api.Errno) {
	t.Helper()
	if list, e := m.Runs(number); len(list) != 0 || e != want {
		t.Fatalf("Runs(%d): %v, %v, want none, %v", number, list, e, want)
	}
}

func load(t *testing.T, m *span.Map, number int) api.Node {
	t.Helper()
	n, e := m.Load(number)
	is(t, "Load", e, api.OK)
	return n
}

func owns(t *testing.T, m *span.Map, number, want int) {
	t.Helper()
	if n := load(t, m, number); n.Owned != want {
		t.Fatalf("node %d owns %d blocks, want %d", number, n.Owned, want)
	}
}

func on(tx *store.Tx) *span.Map { return span.On(node.On(pool.On(tx))) }

// begun is a map on a new transaction.
func begun(t *testing.T, s *store.Store) *span.Map {
	t.Helper()
	return on(trial.Begun(t, s))
}

// next commits, and begins another transaction.
func next(t *testing.T, s *store.Store, m *span.Map) *span.Map {
	t.Helper()
	return trial.Next(t, s, m, on)
}

// fresh is a store of that form with so many files, committed, and a map on a new transaction.
func fresh(t *testing.T, form api.Super, files int) (*disk.Disk, *store.Store, *span.Map) {
	t.Helper()
	return trial.Fresh(t, form, files, on)
}

// entry is a pointer in an indirect block, by the chapter's words.
func entry(t *testing.T, m *span.Map, block, place int) int {
	t.Helper()
	return int(binary.LittleEndian.Uint32(get(t, m, block)[4*place:]))
}

// lay writes a pointer into an indirect block.
func lay(t *testing.T, m *span.Map, block, place int, pointer uint32) {
	t.Helper()
	data := get(t, m, block)
	binary.LittleEndian.PutUint32(data[4*place:], pointer)
	is(t, "Put", m.Put(block, data), api.OK)
}

// fillData lays the byte x into all data blocks, in as many transactions as it takes.
func fillData(t *testing.T, s *store.Store, m *span.Map, x byte) *span.Map {
	t.Helper()
	l := m.Layout()
	for b := l.Data; b < l.Blocks; b++ {
		is(t, "Put", m.Put(b, fill(x)), api.OK)
		if (b-l.Data)%16 == 15 {
			m = next(t, s, m)
		}
	}
	return next(t, s, m)
}

func TestP801Examples(t *testing.T) {
	_, s, m := fresh(t, small, 2)
	wheres(t, m, 1, 0, 0, api.OK)
	grows(t, m, 1, 0, 4, true, api.OK)
	grows(t, m, 1, 0, 4, false, api.OK)
	owns(t, m, 1, 1)
	grows(t, m, 1, 10, 6, true, api.OK)
	if n := load(t, m, 1); n.Single != 5 || n.Owned != 3 {
		t.Fatalf("node 1: %+v", n)
	}
	runs(t, m, 1, api.Run{From: 0, To: 1}, api.Run{From: 10, To: 11})
	m = next(t, s, m)

	grows(t, m, 2, 138, 9, true, api.OK)
	if n := load(t, m, 2); n.Double != 7 || n.Owned != 3 || entry(t, m, 7, 0) != 8 {
		t.Fatalf("node 2: %+v", n)
	}
	grows(t, m, 2, 266, 11, true, api.OK)
	if n := load(t, m, 2); n.Double != 7 || n.Owned != 5 || entry(t, m, 7, 1) != 10 {
		t.Fatalf("node 2: %+v", n)
	}
	m = next(t, s, m)
	punches(t, m, 2, 138, 139, api.OK)
	owns(t, m, 2, 3)
	is(t, "DropBlock", m.DropBlock(8), api.ErrFree)
	is(t, "DropBlock", m.DropBlock(9), api.ErrFree)
	if b, e := m.TakeBlock(); b != 8 || e != api.OK {
		t.Fatalf("TakeBlock: %d, %v", b, e)
	}
	is(t, "DropBlock", m.DropBlock(8), api.OK)
	punches(t, m, 2, 200, 300, api.OK)
	if n := load(t, m, 2); n != (api.Node{Kind: api.KFile}) {
		t.Fatalf("node 2: %+v", n)
	}

	cutFrom(t, m, 1, 1, api.OK)
	if n := load(t, m, 1); n != (api.Node{Kind: api.KFile, Owned: 1, Direct: [10]int{4}}) {
		t.Fatalf("node 1: %+v", n)
	}
	was := blocks(t, m)
	cutFrom(t, m, 1, 16522, api.OK)
	cutFrom(t, m, 1, 16523, api.ErrRange)
	punches(t, m, 1, 5, 4, api.ErrRange)
	punches(t, m, 1, 0, 0, api.OK)
	wheres(t, m, 9, 0, 0, api.ErrRange)
	wheres(t, m, 3, 0, 0, api.ErrNode)
	wheres(t, m, 1, 16522, 0, api.ErrRange)
	wheres(t, m, 0, -1, 0, api.ErrRange)
	if list := unlike(was, blocks(t, m)); list != nil {
		t.Fatalf("the blocks %v were put", list)
	}
}

func TestP801ExampleRoom(t *testing.T) {
	_, _, m := fresh(t, small, 2)
	for left(t, m) > 2 {
		_, e := m.TakeBlock()
		is(t, "TakeBlock", e, api.OK)
	}
	grows(t, m, 1, 138, 0, false, api.ErrNoSpace)
	wheres(t, m, 1, 0, 0, api.ErrNoSpace)
}

func TestP801ExampleBudget(t *testing.T) {
	_, s, m := fresh(t, small, 2)
	for i := range 14 {
		grown(t, m, 1+i/10, i%10)
	}
	m = next(t, s, m)
	trial.PutMany(t, m, 4, 14)
	grows(t, m, 2, 4, 18, true, api.OK)
	grows(t, m, 2, 5, 19, true, api.OK)
	grows(t, m, 2, 10, 0, false, api.ErrBudget)
	asks(t, m, api.ErrBudget)
}

// The methods of all that lies below are the map's too, and On asks for nothing, whatever has become of the transaction.
func TestP801On(t *testing.T) {
	d := formatted(t, small)
	s := opened(t, d)
	tx := trial.Begun(t, s)
	k := node.On(pool.On(tx))
	was := d.Counts()
	m := span.On(k)
	if m == nil || m.Table != k || m.Pool != k.Pool || m.Tx != tx {
		t.Fatal("On: not a map on that table")
	}
	if d.Counts() != was {
		t.Fatalf("On: the disk was asked %+v, and %+v before", d.Counts(), was)
	}
	is(t, "Clear", m.Clear(), api.OK)
	if n, e := m.Make(api.KLink, 0); n != 1 || e != api.OK {
		t.Fatalf("Make: %d, %v", n, e)
	}
	grows(t, m, 1, 3, 4, true, api.OK)
	is(t, "Commit", tx.Commit(), api.OK)
	wheres(t, span.On(k), 1, 3, 0, api.ErrEnded)
	d.Crash(nil)
	wheres(t, span.On(k), 1, 3, 0, api.ErrDead)
}

// asks makes every call, with arguments that are right and wrong, and wants of each that error and zeros beside it.
func asks(t *testing.T, m *span.Map, want api.Errno) {
	t.Helper()
	for _, number := range []int{math.MinInt, -1, 0, 1, 2, 5, 9, math.MaxInt} {
		for _, index := range []int{math.MinInt, -1, 0, 9, 10, 137, 138, 266, 16521, 16522, math.MaxInt} {
			wheres(t, m, number, index, 0, want)
			grows(t, m, number, index, 0, false, want)
			punches(t, m, number, index, 20, want)
			punches(t, m, number, 3, index, want)
			cutFrom(t, m, number, index, want)
		}
		runsRefused(t, m, number, want)
	}
}

// held is a small store with two files that own blocks, committed: of node 1 the indexes 0, 9, 10, 137, 138 and 300, with the double block, two leaves and the single block; of node 2 the index 0.
func held(t *testing.T) (*disk.Disk, *store.Store, *span.Map) {
	t.Helper()
	d, s, m := fresh(t, small, 3)
	grown(t, m, 1, 0, 9, 10, 137, 138, 300)
	grown(t, m, 2, 0)
	return d, s, next(t, s, m)
}

// What becomes of the transaction is told ahead of all else, with zeros beside it.
func TestP801State(t *testing.T) {
	endings := trial.Endings()
	for what, spoil := range map[string]func(m *span.Map){
		"junk, told by Where": func(m *span.Map) { m.Where(2, 0) },
		"junk, told by Grow":  func(m *span.Map) { m.Grow(2, 0) },
		"junk, told by Punch": func(m *span.Map) { m.Punch(2, 0, 1) },
		"junk, told by Cut":   func(m *span.Map) { m.Cut(2, 0) },
		"junk, told by Runs":  func(m *span.Map) { m.Runs(2) },
	} {
		endings = append(endings, trial.Ending{What: what, Want: api.ErrCorrupt, End: func(d *disk.Disk, s *store.Store, tx *store.Tx) {
			m := on(tx)
			is(t, "Save", m.Save(2, api.Node{Kind: 1, Owned: 1, Direct: [10]int{43}}), api.OK)
			spoil(m)
		}})
	}
	endings = append(endings, trial.Ending{What: "a broken slot", Want: api.ErrCorrupt, End: func(d *disk.Disk, s *store.Store, tx *store.Tx) {
		is(t, "Put", tx.Put(2, fill(9)), api.OK)
		on(tx).Where(1, 0)
	}})
	endings = append(endings, trial.Ending{What: "no space", Want: api.ErrNoSpace, End: func(d *disk.Disk, s *store.Store, tx *store.Tx) {
		is(t, "Put", tx.Put(0, fill(255)), api.OK)
		on(tx).Grow(1, 1)
	}})
	for _, c := range endings {
		d, s, m := held(t)
		c.End(d, s, m.Tx)
		is(t, c.What, m.State(), c.Want)
		asks(t, m, c.Want)
		is(t, c.What, m.State(), c.Want)
	}
}

// A map keeps nothing: two on one transaction, the calls of the layers below and the transaction's own puts are seen at once.
func TestP801KeepsNothing(t *testing.T) {
	_, _, m := held(t)
	other, third := span.On(m.Table), on(m.Tx)
	grows(t, m, 2, 1, 15, true, api.OK)
	grows(t, other, 2, 1, 15, false, api.OK)
	grows(t, third, 2, 2, 16, true, api.OK)
	wheres(t, m, 2, 2, 16, api.OK)
	runs(t, other, 2, api.Run{From: 0, To: 3})
	punches(t, other, 2, 1, 2, api.OK)
	wheres(t, third, 2, 1, 0, api.OK)
	if b, e := third.TakeBlock(); b != 15 || e != api.OK {
		t.Fatalf("TakeBlock: %d, %v", b, e)
	}
	grows(t, m, 2, 1, 17, true, api.OK)
	is(t, "Save", third.Save(2, api.Node{Kind: 1, Owned: 1, Direct: [10]int{5: 15}}), api.OK)
	runs(t, m, 2, api.Run{From: 5, To: 6})
	lay(t, other, load(t, m, 1).Single, 40, 16)
	wheres(t, m, 1, 50, 16, api.OK)
	is(t, "Spoil", other.Spoil(api.ErrNoNodes), api.ErrNoNodes)
	asks(t, m, api.ErrNoNodes)
}

// The kind of a node is none of this layer's business.
func TestP801Kinds(t *testing.T) {
	_, _, m := fresh(t, small, 0)
	for number, kind := range []int{1: api.KDir, 2: api.KLink, 3: api.KFile} {
		if number == 0 {
			continue
		}
		_, e := m.Make(kind, []int{0, 0, 1, 0}[kind])
		is(t, "Make", e, api.OK)
		was := load(t, m, number)
		grown(t, m, number, 3, 12)
		runs(t, m, number, api.Run{From: 3, To: 4}, api.Run{From: 12, To: 13})
		cutFrom(t, m, number, 0, api.OK)
		if n := load(t, m, number); n != was {
			t.Fatalf("node %d: %+v, and %+v before", number, n, was)
		}
	}
}

// The fields that are not this layer's stay as they are, and so do the other nodes of the block.
func TestP801OtherFields(t *testing.T) {
	_, _, m := fresh(t, small, 8)
	var was []api.Node
	for number := 1; number <= 8; number++ {
		n := api.Node{Kind: 1, Links: number, Size: 1000 * number}
		is(t, "Save", m.Save(number, n), api.OK)
		was = append(was, n)
	}
	grown(t, m, 6, 2, 20, 200)
	n := load(t, m, 6)
	n.Direct, n.Single, n.Double, n.Owned = [10]int{}, 0, 0, 0
	if n != was[5] {
		t.Fatalf("Grow has changed node 6 to %+v", load(t, m, 6))
	}
	cutFrom(t, m, 6, 0, api.OK)
	for i, n := range was {
		if load(t, m, i+1) != n {
			t.Fatalf("node %d: %+v, want %+v", i+1, load(t, m, i+1), n)
		}
	}
}

// way is what hangs from a node that holds a block at one index alone, by the chapter's formulas.
func way(t *testing.T, m *span.Map, n api.Node, index int) (block int, indirects []int) {
	t.Helper()
	switch j := index - 138; {
	case index < 10:
		return n.Direct[index], nil
	case index < 138:
		return entry(t, m, n.Single, index-10), []int{n.Single}
	default:
		leaf := entry(t, m, n.Double, j/128)
		return entry(t, m, leaf, j%128), []int{n.Double, leaf}
	}
}

// Each index has its own place, and what it takes is taken in the order that is said, and cleared: every index of a node, on blocks that held something else.
func TestP802EveryIndex(t *testing.T) {
	t.Parallel()
	_, s, m := fresh(t, small, 1)
	m = fillData(t, s, m, 'x')
	is(t, "Abort", m.Abort(), api.OK)
	for index := range api.MaxIndex {
		m = begun(t, s)
		depth := 1
		if index >= 10 {
			depth = 2
		}
		if index >= 138 {
			depth = 3
		}
		wheres(t, m, 1, index, 0, api.OK)
		grows(t, m, 1, index, 3+depth, true, api.OK)
		grows(t, m, 1, index, 3+depth, false, api.OK)
		wheres(t, m, 1, index, 3+depth, api.OK)
		n := load(t, m, 1)
		block, indirects := way(t, m, n, index)
		if block != 3+depth || !slices.Equal(indirects, []int{4, 5}[:depth-1]) || n.Owned != depth {
			t.Fatalf("P802: index %d: block %d behind %v, node %+v", index, block, indirects, n)
		}
		if !bytes.Equal(get(t, m, block), fill(0)) {
			t.Fatalf("P802: the block at index %d is not cleared", index)
		}
		pointers := 0
		for _, b := range indirects {
			for _, x := range get(t, m, b) {
				if x != 0 {
					pointers++
				}
			}
		}
		if pointers != depth-1 {
			t.Fatalf("P802: %d bytes of the indirect blocks of index %d are not 0", pointers, index)
		}
		if index%1000 == 9 || index > 16518 {
			runs(t, m, 1, api.Run{From: index, To: index + 1})
		}
		punches(t, m, 1, index, index+1, api.OK)
		if n := load(t, m, 1); n != (api.Node{Kind: 1}) {
			t.Fatalf("P803: index %d leaves %+v", index, n)
		}
		is(t, "Abort", m.Abort(), api.OK)
	}
}

// What is there on the way is used; what is not is taken, and no more.
func TestP802Taken(t *testing.T) {
	_, s, m := fresh(t, large, 2)
	m = fillData(t, s, m, 'y')
	free := left(t, m)
	for _, c := range []struct{ index, takes int }{
		{0, 1}, {9, 1}, {10, 2}, {11, 1}, {137, 1}, {138, 3}, {139, 1}, {265, 1}, {266, 2}, {16521, 2}, {16393, 2}, {16394, 1}, {5, 1}, {50, 1},
	} {
		lowest := 3 + (2024 - free)
		grows(t, m, 1, c.index, lowest+c.takes-1, true, api.OK)
		free -= c.takes
		if left(t, m) != free {
			t.Fatalf("P802: index %d took other than %d blocks", c.index, c.takes)
		}
		owns(t, m, 1, 2024-free)
		m = next(t, s, m)
	}
	was := blocks(t, m)
	for _, index := range []int{0, 9, 10, 11, 137, 138, 139, 265, 266, 16521, 16393, 16394, 5, 50} {
		b, fresh, e := m.Grow(1, index)
		is(t, "Grow", e, api.OK)
		wheres(t, m, 1, index, b, api.OK)
		if fresh {
			t.Fatalf("P802: Grow(1, %d) is fresh again", index)
		}
	}
	if list := unlike(was, blocks(t, m)); list != nil {
		t.Fatalf("P802: Grow has put %v where there is a block", list)
	}
}

// The number of a block above 255 stands in a pointer with its lowest byte first.
func TestP802HighBlocks(t *testing.T) {
	_, s, m := fresh(t, large, 1)
	for left(t, m) > 2027-0x123 {
		_, e := m.TakeBlock()
		is(t, "TakeBlock", e, api.OK)
	}
	m = next(t, s, m)
	grows(t, m, 1, 12, 0x124, true, api.OK)
	grows(t, m, 1, 138+128*3+7, 0x127, true, api.OK)
	if n := load(t, m, 1); n.Single != 0x123 || n.Double != 0x125 {
		t.Fatalf("node 1: %+v", n)
	}
	for b, want := range map[int][]byte{0x123: indirect(map[int]int{2: 0x124}), 0x125: indirect(map[int]int{3: 0x126}), 0x126: indirect(map[int]int{7: 0x127})} {
		data := get(t, m, b)
		if !bytes.Equal(data, want) || slices.Max(data) == 0 {
			t.Fatalf("block %d holds %v", b, data)
		}
	}
	if at := get(t, m, 0x123)[8:12]; !bytes.Equal(at, []byte{0x24, 1, 0, 0}) {
		t.Fatalf("the pointer of index 12: %v", at)
	}
	m = next(t, s, m)
	wheres(t, m, 1, 12, 0x124, api.OK)
	wheres(t, m, 1, 138+128*3+7, 0x127, api.OK)
	cutFrom(t, m, 1, 0, api.OK)
	if left(t, m) != 2027-0x123 {
		t.Fatalf("%d blocks are free", left(t, m))
	}
}

// With so many blocks free, a Grow that takes more is refused ahead of taking any; one that takes no more is not.
func TestP802NoSpace(t *testing.T) {
	for _, c := range []struct {
		what         string
		there        []int
		index, takes int
	}{
		{"direct", nil, 4, 1},
		{"single", nil, 10, 2}, {"in the single block", []int{20}, 10, 1},
		{"double", nil, 16521, 3}, {"leaf", []int{138}, 16521, 2}, {"in the leaf", []int{16520}, 16521, 1},
	} {
		for free := range 4 {
			_, s, m := fresh(t, small, 2)
			grown(t, m, 1, c.there...)
			m = next(t, s, m)
			for left(t, m) > free {
				_, e := m.TakeBlock()
				is(t, "TakeBlock", e, api.OK)
			}
			m = next(t, s, m)
			was := blocks(t, m)
			want := api.OK
			if free < c.takes {
				want = api.ErrNoSpace
			}
			b, fresh, e := m.Grow(1, c.index)
			is(t, c.what, e, want)
			if fresh != (e == api.OK) || (b != 0) != (e == api.OK) {
				t.Fatalf("P4: Grow(1, %d): %d, %v, %v", c.index, b, fresh, e)
			}
			if e == api.OK {
				if left(t, m) != free-c.takes {
					t.Fatalf("P802: %d blocks are free, want %d", left(t, m), free-c.takes)
				}
				continue
			}
			asks(t, m, api.ErrNoSpace)
			is(t, "Commit", m.Commit(), api.ErrNoSpace)
			is(t, "Abort", m.Abort(), api.OK)
			m = begun(t, s)
			if list := unlike(was, blocks(t, m)); list != nil {
				t.Fatalf("P7: %v are unlike behind the Abort", list)
			}
			for _, index := range c.there {
				grow, fresh, e := m.Grow(1, index)
				is(t, "Grow", e, api.OK)
				if fresh || grow == 0 {
					t.Fatal("P802: with no block free one that is there is told")
				}
			}
		}
	}
}

// The numbers that no node and no index has, at each call; the state goes ahead, and what the disk holds comes behind.
func TestP802Range(t *testing.T) {
	for _, form := range []api.Super{small, large} {
		_, _, m := fresh(t, form, 2)
		is(t, "Put", m.Put(0, fill(255)), api.OK) // no block is free
		was := blocks(t, m)
		numbers := []int{math.MinInt, -1, 0, form.Nodes + 1, 1 << 32, 1<<32 + 1, math.MaxInt}
		for _, number := range numbers {
			for _, index := range append([]int{0, 9, 138, 16521}, far...) {
				wheres(t, m, number, index, 0, api.ErrRange)
				grows(t, m, number, index, 0, false, api.ErrRange)
				punches(t, m, number, index, 16522, api.ErrRange)
				punches(t, m, number, 0, index, api.ErrRange)
				cutFrom(t, m, number, index, api.ErrRange)
			}
			runsRefused(t, m, number, api.ErrRange)
		}
		for _, number := range []int{1, 2, 3} { // there is no node 3
			for _, index := range far {
				wheres(t, m, number, index, 0, api.ErrRange)
				grows(t, m, number, index, 0, false, api.ErrRange)
			}
		}
		for _, index := range seams {
			wheres(t, m, 3, index, 0, api.ErrNode)
			grows(t, m, 3, index, 0, false, api.ErrNode)
			punches(t, m, 3, index, index, api.ErrNode)
			cutFrom(t, m, 3, index, api.ErrNode)
		}
		runsRefused(t, m, 3, api.ErrNode)
		is(t, "State", m.State(), api.OK)
		if list := unlike(was, blocks(t, m)); list != nil {
			t.Fatalf("calls that are refused have put %v", list)
		}
	}
}

// A slot that is broken is told behind a wrong index.
func TestP802BrokenSlot(t *testing.T) {
	for what, call := range map[string]func(m *span.Map, number, index int) api.Errno{
		"Where": func(m *span.Map, number, index int) api.Errno { _, e := m.Where(number, index); return e },
		"Grow":  func(m *span.Map, number, index int) api.Errno { _, _, e := m.Grow(number, index); return e },
		"Punch": func(m *span.Map, number, index int) api.Errno { return m.Punch(number, index, 16522) },
		"Cut":   func(m *span.Map, number, index int) api.Errno { return m.Cut(number, index) },
	} {
		_, _, m := held(t)
		is(t, "Put", m.Put(3, fill('x')), api.OK)
		is(t, what, call(m, 5, -1), api.ErrRange)
		is(t, what, call(m, 5, 16523), api.ErrRange)
		is(t, what, call(m, 1, 0), api.OK)
		is(t, what, call(m, 5, 0), api.ErrCorrupt)
		asks(t, m, api.ErrCorrupt)
	}
	_, _, m := held(t)
	is(t, "Put", m.Put(3, fill('x')), api.OK)
	runsRefused(t, m, 5, api.ErrCorrupt)
	asks(t, m, api.ErrCorrupt)
}

// The ranges that may be punched, and those that may not.
func TestP803Range(t *testing.T) {
	_, _, m := fresh(t, small, 2)
	was := blocks(t, m)
	edges := append([]int{0, 1, 9, 10, 137, 138, 266, 16521, 16522}, far...)
	for _, number := range []int{1, 3} {
		for _, from := range edges {
			for _, to := range edges {
				want := api.ErrRange
				if from >= 0 && from <= to && to <= 16522 {
					want = []api.Errno{1: api.OK, 3: api.ErrNode}[number]
				}
				punches(t, m, number, from, to, want)
			}
			want := api.ErrRange
			if from >= 0 && from <= 16522 {
				want = []api.Errno{1: api.OK, 3: api.ErrNode}[number]
			}
			cutFrom(t, m, number, from, want)
		}
	}
	is(t, "State", m.State(), api.OK)
	if list := unlike(was, blocks(t, m)); list != nil {
		t.Fatalf("P803: where nothing is to be freed %v was put", list)
	}
}

// many is a store with one file that holds a block at each of the seams, committed, and the blocks by their indexes.
func many(t *testing.T) (*disk.Disk, *store.Store, *span.Map, map[int]int) {
	t.Helper()
	d, s, m := fresh(t, small, 1)
	at := map[int]int{}
	for _, index := range seams {
		b, fresh, e := m.Grow(1, index)
		is(t, "Grow", e, api.OK)
		if !fresh {
			t.Fatalf("Grow(1, %d) is not fresh", index)
		}
		at[index] = b
		m = next(t, s, m)
	}
	return d, s, m, at
}

// Every range between two seams: what lies in it is freed, with the indirect blocks that have no pointer then, and nothing else.
func TestP803EveryRange(t *testing.T) {
	t.Parallel()
	_, s, m, at := many(t)
	all := left(t, m) + load(t, m, 1).Owned
	is(t, "Abort", m.Abort(), api.OK)
	for i, from := range seams {
		for _, to := range append(seams[i:], 16522) {
			m = begun(t, s)
			punches(t, m, 1, from, to, api.OK)
			stay := slices.DeleteFunc(slices.Clone(seams), func(index int) bool { return index >= from && index < to })
			for _, index := range seams {
				want := at[index]
				if index >= from && index < to {
					want = 0
				}
				wheres(t, m, 1, index, want, api.OK)
			}
			owns(t, m, 1, ownedBy(stay))
			runs(t, m, 1, rows(stay)...)
			if left(t, m) != all-ownedBy(stay) {
				t.Fatalf("P803: Punch(1, %d, %d): %d blocks are free, want %d", from, to, left(t, m), all-ownedBy(stay))
			}
			is(t, "Abort", m.Abort(), api.OK)
		}
	}
}

// Cut is the Punch of all that lies behind: the two leave the same blocks.
func TestP804IsPunch(t *testing.T) {
	_, s, m, _ := many(t)
	is(t, "Abort", m.Abort(), api.OK)
	for _, from := range append(slices.Clone(seams), 16522, 2, 200, 7000) {
		m = begun(t, s)
		cutFrom(t, m, 1, from, api.OK)
		cut := blocks(t, m)
		is(t, "Abort", m.Abort(), api.OK)
		m = begun(t, s)
		punches(t, m, 1, from, 16522, api.OK)
		if list := unlike(cut, blocks(t, m)); list != nil {
			t.Fatalf("P804: Cut(1, %d) leaves other blocks: %v", from, list)
		}
		is(t, "Abort", m.Abort(), api.OK)
	}
}

// Rows of many lengths, across the seams.
func TestP805Rows(t *testing.T) {
	_, s, m := fresh(t, large, 2)
	runs(t, m, 1)
	var want []int
	for _, r := range []api.Run{{From: 2, To: 4}, {From: 6, To: 14}, {From: 130, To: 145}, {From: 260, To: 270}, {From: 390, To: 600}, {From: 16392, To: 16396}, {From: 16510, To: 16522}} {
		for index := r.From; index < r.To; index++ {
			grown(t, m, 1, index)
			want = append(want, index)
			m = next(t, s, m)
		}
		was := blocks(t, m)
		runs(t, m, 1, rows(want)...)
		if list := unlike(was, blocks(t, m)); list != nil {
			t.Fatalf("P805: Runs has put %v", list)
		}
	}
	runs(t, m, 2)
	owns(t, m, 1, ownedBy(want))
	for _, index := range want { // a hole in each row in its turn
		punches(t, m, 1, index, index+1, api.OK)
		runs(t, m, 1, rows(slices.DeleteFunc(slices.Clone(want), func(i int) bool { return i == index }))...)
		grown(t, m, 1, index)
		m = next(t, s, m)
	}
	runs(t, m, 1, rows(want)...)
}

// A file of all the blocks that there are: one row, and all of it is freed by one call.
func TestP805Full(t *testing.T) {
	_, s, m := fresh(t, large, 1)
	count := 0
	for left(t, m) > 1 { // the last one may be a leaf without a data block behind it
		grown(t, m, 1, count)
		count++
		m = next(t, s, m)
	}
	if count < 2000 {
		t.Fatalf("only %d blocks", count)
	}
	runs(t, m, 1, api.Run{From: 0, To: count})
	punches(t, m, 1, 1, count-1, api.OK)
	runs(t, m, 1, api.Run{From: 0, To: 1}, api.Run{From: count - 1, To: count})
	owns(t, m, 1, 4)
	is(t, "Abort", m.Abort(), api.OK)
	m = begun(t, s)
	cutFrom(t, m, 1, 0, api.OK)
	runs(t, m, 1)
	if left(t, m) != 2024 || load(t, m, 1) != (api.Node{Kind: 1}) {
		t.Fatalf("%d blocks are free, node %+v", left(t, m), load(t, m, 1))
	}
	is(t, "Commit", m.Commit(), api.OK)
}

// What is answered is new memory.
func TestP805NewMemory(t *testing.T) {
	_, _, m := held(t)
	want, e := m.Runs(1)
	is(t, "Runs", e, api.OK)
	list, _ := m.Runs(1)
	list = append(list, api.Run{From: 99, To: 100})
	clear(list[:cap(list)])
	runs(t, m, 1, want...)
}
