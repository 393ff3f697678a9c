package node_test

import (
	"bytes"
	"math"
	"slices"
	"testing"

	"vellum/api"
	"vellum/codec"
	"vellum/disk"
	"vellum/node"
	"vellum/pool"
	"vellum/store"
	"vellum/trial"
)

// The store of the chapter's examples: Blocks 43, Data 4: blocks 2 and 3 hold the table.
var small = api.Super{Sectors: 64, Log: 18, Nodes: 8}

// Stores with tables of one block up to the longest that may be.
var forms = []api.Super{
	small,
	{Sectors: 25, Log: 18, Nodes: 4},
	{Sectors: 64, Log: 18, Nodes: 12},
	{Sectors: 70, Log: 20, Nodes: 72},
	{Sectors: 600, Log: 256, Nodes: 1024},
	{Sectors: 2048, Log: 18, Nodes: 1020},
}

// Short names of what the tests of all views share.
var (
	is        = trial.Is
	fill      = trial.Fill
	formatted = trial.Formatted
	opened    = trial.Opened
	newDice   = trial.NewDice
	unlike    = trial.Unlike
	get       = trial.Get
	blocks    = trial.Blocks
)

func makes(t *testing.T, k *node.Table, kind, parent, want int, wantE api.Errno) {
	t.Helper()
	if n, e := k.Make(kind, parent); n != want || e != wantE {
		t.Fatalf("Make(%d, %d): %d, %v, want %d, %v", kind, parent, n, e, want, wantE)
	}
}

func loads(t *testing.T, k *node.Table, number int, want api.Node, wantE api.Errno) {
	t.Helper()
	if n, e := k.Load(number); n != want || e != wantE {
		t.Fatalf("Load(%d): %+v, %v, want %+v, %v", number, n, e, want, wantE)
	}
}

func all(t *testing.T, k *node.Table, kind int, want ...int) {
	t.Helper()
	if list, e := k.All(kind); !slices.Equal(list, want) || e != api.OK {
		t.Fatalf("All(%d): %v, %v, want %v", kind, list, e, want)
	}
}

// allRefused asks for All's error, and no numbers beside it.
func allRefused(t *testing.T, k *node.Table, kind int, want api.Errno) {
	t.Helper()
	if list, e := k.All(kind); len(list) != 0 || e != want {
		t.Fatalf("All(%d): %v, %v, want none, %v", kind, list, e, want)
	}
}

// begun is a table on a new transaction.
func begun(t *testing.T, s *store.Store) *node.Table {
	t.Helper()
	return node.On(pool.On(trial.Begun(t, s)))
}

// fresh is a store of that form and a table on it, behind Clear.
func fresh(t *testing.T, form api.Super) (*disk.Disk, *store.Store, *node.Table) {
	t.Helper()
	d := formatted(t, form)
	s := opened(t, d)
	k := begun(t, s)
	is(t, "Clear", k.Clear(), api.OK)
	return d, s, k
}

// three is a small store with a directory, a file and a link, and a file that owns a block, committed; and a table on a new transaction.
func three(t *testing.T) (*disk.Disk, *store.Store, *node.Table) {
	t.Helper()
	d, s, k := fresh(t, small)
	makes(t, k, api.KDir, 1, 1, api.OK)
	makes(t, k, api.KFile, 0, 2, api.OK)
	makes(t, k, api.KLink, 0, 3, api.OK)
	makes(t, k, api.KFile, 0, 4, api.OK)
	is(t, "Save", k.Save(4, api.Node{Kind: 1, Owned: 1}), api.OK)
	is(t, "Commit", k.Commit(), api.OK)
	return d, s, begun(t, s)
}

// raw are the bytes of a slot, by the chapter's numbers.
func raw(t *testing.T, k *node.Table, number int) []byte {
	t.Helper()
	return get(t, k, 2+(number-1)/4)[128*((number-1)%4):][:128]
}

// lay writes bytes into a slot.
func lay(t *testing.T, k *node.Table, number int, data []byte) {
	t.Helper()
	block := get(t, k, 2+(number-1)/4)
	copy(block[128*((number-1)%4):], data)
	is(t, "Put", k.Put(2+(number-1)/4, block), api.OK)
}

func record(t *testing.T, n api.Node) []byte {
	t.Helper()
	data, e := codec.EncodeNode(n)
	is(t, "EncodeNode", e, api.OK)
	return data
}

// putOthers puts so many data blocks.
func putOthers(t *testing.T, k *node.Table, count int) {
	t.Helper()
	trial.PutMany(t, k, k.Layout().Data, count)
}

func TestP701Examples(t *testing.T) {
	_, _, k := fresh(t, small)
	makes(t, k, api.KDir, 1, 1, api.OK)
	loads(t, k, 1, api.Node{Kind: 2, Links: 2, Parent: 1}, api.OK)
	makes(t, k, api.KFile, 0, 2, api.OK)
	makes(t, k, api.KLink, 0, 3, api.OK)
	all(t, k, 0, 1, 2, 3)
	all(t, k, api.KFile, 2)
	all(t, k, api.KDir, 1)

	makes(t, k, api.KFile, 1, 0, api.ErrArg)
	makes(t, k, api.KDir, 0, 0, api.ErrRange)
	makes(t, k, api.KDir, 9, 0, api.ErrRange)
	makes(t, k, 0, 0, 0, api.ErrArg)
	makes(t, k, 4, 0, 0, api.ErrArg)

	is(t, "Save", k.Save(2, api.Node{Kind: 1, Links: 5, Size: 77}), api.OK)
	loads(t, k, 2, api.Node{Kind: 1, Links: 5, Size: 77}, api.OK)
	is(t, "Save", k.Save(2, api.Node{Kind: 3}), api.ErrArg)
	is(t, "Save", k.Save(2, api.Node{Kind: 1, Links: 65}), api.ErrField)
	is(t, "Save", k.Save(2, api.Node{}), api.ErrField)
	is(t, "Save", k.Save(4, api.Node{Kind: 1}), api.ErrNode)
	is(t, "Save", k.Save(9, api.Node{}), api.ErrRange)

	is(t, "Save", k.Save(2, api.Node{Kind: 1, Owned: 1}), api.OK)
	is(t, "Free", k.Free(2), api.ErrOwned)
	is(t, "Save", k.Save(2, api.Node{Kind: 1}), api.OK)
	is(t, "Free", k.Free(2), api.OK)
	loads(t, k, 2, api.Node{}, api.ErrNode)
	is(t, "Free", k.Free(2), api.ErrNode)
	all(t, k, 0, 1, 3)
	makes(t, k, api.KFile, 0, 2, api.OK)

	is(t, "DropNode", k.DropNode(3), api.OK)
	is(t, "Free", k.Free(3), api.ErrFree)
	loads(t, k, 3, api.Node{Kind: 3}, api.OK)
}

func TestP701ExamplesSpoilt(t *testing.T) {
	_, s, k := fresh(t, small)
	for i := 1; i <= 8; i++ {
		makes(t, k, api.KFile, 0, i, api.OK)
	}
	makes(t, k, api.KFile, 0, 0, api.ErrNoNodes)
	loads(t, k, 1, api.Node{}, api.ErrNoNodes)
	is(t, "Abort", k.Abort(), api.OK)

	k = begun(t, s)
	is(t, "Put", k.Put(3, fill('x')), api.OK)
	loads(t, k, 5, api.Node{}, api.ErrCorrupt)
	asks(t, k, api.ErrCorrupt)
	is(t, "Commit", k.Commit(), api.ErrCorrupt)
	is(t, "Abort", k.Abort(), api.OK)
}

// The methods of the pool and of the transaction are the table's too, and On asks for nothing, whatever has become of the transaction.
func TestP701On(t *testing.T) {
	d := formatted(t, small)
	s := opened(t, d)
	tx, e := s.Begin()
	is(t, "Begin", e, api.OK)
	p := pool.On(tx)
	was := d.Counts()
	k := node.On(p)
	if k == nil || k.Pool != p || k.Tx != tx {
		t.Fatal("On: not a table on that pool")
	}
	if d.Counts() != was {
		t.Fatalf("On: the disk was asked %+v, and %+v before", d.Counts(), was)
	}
	is(t, "State", k.State(), api.OK)
	if k.Layout() != tx.Layout() {
		t.Fatal("the table's Layout is not the transaction's")
	}
	if n, e := k.TakeNode(); n != 1 || e != api.OK {
		t.Fatalf("TakeNode: %d, %v", n, e)
	}
	is(t, "Commit", tx.Commit(), api.OK)
	loads(t, node.On(p), 1, api.Node{}, api.ErrEnded)
	d.Crash(nil)
	loads(t, node.On(p), 1, api.Node{}, api.ErrDead)
}

// asks makes every call, with arguments that are right and wrong, and wants of each that error and zeros beside it.
func asks(t *testing.T, k *node.Table, want api.Errno) {
	t.Helper()
	for _, n := range []int{math.MinInt, -1, 0, 1, 2, 3, 4, 5, 8, 9, math.MaxInt} {
		makes(t, k, n, 0, 0, want)
		makes(t, k, api.KDir, n, 0, want)
		makes(t, k, api.KFile, n, 0, want)
		loads(t, k, n, api.Node{}, want)
		is(t, "Save", k.Save(n, api.Node{Kind: 1}), want)
		is(t, "Save", k.Save(n, api.Node{Kind: 9}), want)
		is(t, "Free", k.Free(n), want)
		allRefused(t, k, n, want)
	}
}

func TestP701State(t *testing.T) {
	endings := trial.Endings()
	for what, spoil := range map[string]func(k *node.Table){
		"broken, told by Load": func(k *node.Table) { k.Load(4) },
		"broken, told by Save": func(k *node.Table) { k.Save(4, api.Node{Kind: 1}) },
		"broken, told by Free": func(k *node.Table) { k.Free(4) },
		"broken, told by All":  func(k *node.Table) { k.All(0) },
	} {
		endings = append(endings, trial.Ending{What: what, Want: api.ErrCorrupt, End: func(d *disk.Disk, s *store.Store, tx *store.Tx) {
			is(t, "Put", tx.Put(2, fill(1)), api.OK)
			spoil(node.On(pool.On(tx)))
		}})
	}
	endings = append(endings, trial.Ending{What: "without a node", Want: api.ErrNoNodes, End: func(d *disk.Disk, s *store.Store, tx *store.Tx) {
		for range 5 {
			node.On(pool.On(tx)).Make(api.KFile, 0)
		}
	}})
	for _, c := range endings {
		d, s, k := three(t)
		c.End(d, s, k.Tx)
		is(t, c.What, k.State(), c.Want)
		asks(t, k, c.Want)
		is(t, c.What, k.State(), c.Want)
	}
}

// A table keeps nothing: two on one transaction, a pool's calls and the transaction's own puts are seen at once.
func TestP701KeepsNothing(t *testing.T) {
	_, _, k := three(t)
	other := node.On(k.Pool)
	third := node.On(pool.On(k.Tx))
	makes(t, k, api.KFile, 0, 5, api.OK)
	makes(t, other, api.KLink, 0, 6, api.OK)
	loads(t, k, 6, api.Node{Kind: 3}, api.OK)
	loads(t, third, 5, api.Node{Kind: 1}, api.OK)
	is(t, "Save", third.Save(5, api.Node{Kind: 1, Size: 9}), api.OK)
	loads(t, k, 5, api.Node{Kind: 1, Size: 9}, api.OK)
	is(t, "Free", third.Free(5), api.OK)
	loads(t, k, 5, api.Node{}, api.ErrNode)
	lay(t, k, 6, record(t, api.Node{Kind: 2, Links: 7, Parent: 3}))
	loads(t, other, 6, api.Node{Kind: 2, Links: 7, Parent: 3}, api.OK)
	all(t, other, api.KDir, 1, 6)
	is(t, "Put", k.Put(1, fill(127)), api.OK)
	makes(t, other, api.KFile, 0, 8, api.OK)
	is(t, "Clear", other.Clear(), api.OK)
	makes(t, k, api.KFile, 0, 1, api.OK)
	all(t, third, api.KFile, 1, 2, 4, 8)
	is(t, "Spoil", other.Spoil(api.ErrNoSpace), api.ErrNoSpace)
	asks(t, k, api.ErrNoSpace)
}

// Every number, in stores of many forms: it is made in its turn, in its own slot, and nothing beside it is changed.
func TestP702EveryNumber(t *testing.T) {
	for _, form := range forms {
		_, s, k := fresh(t, form)
		for number := 1; number <= form.Nodes; number++ {
			want := api.Node{Kind: 1 + number%3}
			if want.Kind == api.KDir {
				want.Parent, want.Links = 1+number*7%form.Nodes, 2
			}
			makes(t, k, want.Kind, want.Parent, number, api.OK)
			loads(t, k, number, want, api.OK)
			if !bytes.Equal(raw(t, k, number), record(t, want)) {
				t.Fatalf("the slot of node %d holds %v", number, raw(t, k, number))
			}
			if number%16 == 0 {
				is(t, "Commit", k.Commit(), api.OK)
				k = begun(t, s)
			}
		}
		makes(t, k, api.KFile, 0, 0, api.ErrNoNodes)
		asks(t, k, api.ErrNoNodes)
	}
}

func TestP702Arguments(t *testing.T) {
	for _, form := range forms {
		_, _, k := fresh(t, form)
		was := blocks(t, k)
		far := []int{math.MinInt, -form.Nodes, -1, form.Nodes + 1, form.Nodes + 2, 2048, math.MaxInt}
		for _, kind := range []int{math.MinInt, -1, 0, 4, 5, 257, 258, math.MaxInt} {
			for _, parent := range append(far, 0, 1, form.Nodes) {
				makes(t, k, kind, parent, 0, api.ErrArg)
			}
		}
		for _, parent := range append(far, 0) {
			makes(t, k, api.KDir, parent, 0, api.ErrRange)
		}
		for _, parent := range append(far, 1, form.Nodes) {
			makes(t, k, api.KFile, parent, 0, api.ErrArg)
			makes(t, k, api.KLink, parent, 0, api.ErrArg)
		}
		is(t, "State", k.State(), api.OK)
		if list := unlike(was, blocks(t, k)); list != nil {
			t.Fatalf("Make with wrong arguments has put %v", list)
		}
		makes(t, k, api.KDir, 1, 1, api.OK)
		makes(t, k, api.KDir, form.Nodes, 2, api.OK)
	}
}

// The arguments are looked at ahead of what is free.
func TestP702Order(t *testing.T) {
	_, _, k := three(t)
	is(t, "Put", k.Put(1, fill(255)), api.OK)
	makes(t, k, 0, 0, 0, api.ErrArg)
	makes(t, k, api.KDir, 0, 0, api.ErrRange)
	makes(t, k, api.KLink, 1, 0, api.ErrArg)
	makes(t, k, api.KDir, 1, 0, api.ErrNoNodes)
	asks(t, k, api.ErrNoNodes)
}

// A slot may have held anything, and the bitmap alone says which number is free.
func TestP702WhateverItHeld(t *testing.T) {
	d := newDice(702)
	for _, held := range [][]byte{make([]byte, 128), fill('x')[:128], d.Bytes(128), record(t, api.Node{Kind: 2, Parent: 9, Links: 64, Owned: 5, Double: 7})} {
		_, _, k := fresh(t, small)
		for block := 2; block <= 3; block++ {
			is(t, "Put", k.Put(block, bytes.Repeat(held, 4)), api.OK)
		}
		bits := fill(255)
		bits[0] = 255 - 4 - 32 - 128
		is(t, "Put", k.Put(1, bits), api.OK)
		for _, number := range []int{3, 6, 8} {
			makes(t, k, api.KLink, 0, number, api.OK)
			loads(t, k, number, api.Node{Kind: 3}, api.OK)
		}
		if !bytes.Equal(get(t, k, 1), fill(255)) {
			t.Fatal("P702: the numbers are not taken")
		}
		for _, number := range []int{1, 2, 4, 5, 7} {
			if !bytes.Equal(raw(t, k, number), held) {
				t.Fatalf("P707: the slot of node %d holds other bytes", number)
			}
		}
		makes(t, k, api.KLink, 0, 0, api.ErrNoNodes)
	}
}

// The numbers that no node has, at each call that takes one: ahead of what is saved there, and of what the disk holds.
func TestP703Range(t *testing.T) {
	for _, form := range forms {
		_, _, k := fresh(t, form)
		is(t, "Put", k.Put(2, fill('x')), api.OK)
		is(t, "Put", k.Put(1+form.Nodes/4, fill('x')), api.OK)
		was := blocks(t, k)
		for _, number := range []int{math.MinInt, math.MinInt + 1, -form.Nodes, -4, -3, -1, 0, form.Nodes + 1, form.Nodes + 4, form.Nodes + 5, 1 << 32, 1<<32 + 1, math.MaxInt} {
			loads(t, k, number, api.Node{}, api.ErrRange)
			is(t, "Save", k.Save(number, api.Node{Kind: 1}), api.ErrRange)
			is(t, "Save", k.Save(number, api.Node{}), api.ErrRange)
			is(t, "Save", k.Save(number, api.Node{Kind: 1, Links: -1}), api.ErrRange)
			is(t, "Free", k.Free(number), api.ErrRange)
		}
		is(t, "State", k.State(), api.OK)
		if list := unlike(was, blocks(t, k)); list != nil {
			t.Fatalf("calls with numbers out of range have put %v", list)
		}
	}
}

// Every bit that is turned in an empty slot, or in one that holds a node, breaks it.
func TestP703Broken(t *testing.T) {
	_, s, k := fresh(t, small)
	is(t, "Commit", k.Commit(), api.OK)
	kept := api.Node{Kind: 1, Links: 3, Size: 700, Owned: 2, Direct: [10]int{5, 6}}
	for _, n := range []api.Node{{}, kept} {
		for bit := range 1024 {
			k = begun(t, s)
			data := record(t, n)
			data[bit/8] ^= 1 << (bit % 8)
			lay(t, k, 6, data)
			lay(t, k, 7, record(t, kept))
			loads(t, k, 5, api.Node{}, api.ErrNode)
			loads(t, k, 7, kept, api.OK) // its neighbours are whole
			switch bit % 4 {
			case 0:
				loads(t, k, 6, api.Node{}, api.ErrCorrupt)
			case 1:
				is(t, "Save", k.Save(6, kept), api.ErrCorrupt)
			case 2:
				is(t, "Free", k.Free(6), api.ErrCorrupt)
			case 3:
				allRefused(t, k, bit/4%4, api.ErrCorrupt)
			}
			is(t, "State", k.State(), api.ErrCorrupt)
			loads(t, k, 7, api.Node{}, api.ErrCorrupt)
			is(t, "Abort", k.Abort(), api.OK)
		}
	}
}

// Records that have a right sum, but fields that do not fit, are broken too.
func TestP703BrokenFields(t *testing.T) {
	_, s, k := three(t)
	is(t, "Abort", k.Abort(), api.OK)
	for _, change := range []struct {
		at int
		to byte
	}{{0, 0}, {0, 4}, {1, 1}, {2, 65}, {3, 1}, {4, 1}, {12, 1}, {17, 9}, {20, 1}, {26, 1}, {66, 1}, {100, 1}} {
		k = begun(t, s)
		data := record(t, api.Node{Kind: 1, Links: 1})
		data[change.at] = change.to
		sum := codec.Sum(data[:124])
		for i := range 4 {
			data[124+i] = byte(sum >> (8 * i))
		}
		lay(t, k, 3, data)
		loads(t, k, 3, api.Node{}, api.ErrCorrupt)
		is(t, "Abort", k.Abort(), api.OK)
	}
}

// Load, Save and Free go by the slot; the bitmap says nothing to them, but that Free frees no free number.
func TestP703NoBitmap(t *testing.T) {
	_, _, k := three(t)
	is(t, "Put", k.Put(1, fill(0)), api.OK)
	loads(t, k, 1, api.Node{Kind: 2, Links: 2, Parent: 1}, api.OK)
	is(t, "Save", k.Save(2, api.Node{Kind: 1, Size: 8}), api.OK)
	loads(t, k, 2, api.Node{Kind: 1, Size: 8}, api.OK)
	all(t, k, 0, 1, 2, 3, 4)
	is(t, "Free", k.Free(2), api.ErrFree)
	is(t, "Put", k.Put(1, fill(255)), api.OK)
	loads(t, k, 5, api.Node{}, api.ErrNode)
	is(t, "Save", k.Save(5, api.Node{Kind: 1}), api.ErrNode)
	is(t, "Free", k.Free(5), api.ErrNode)
	all(t, k, 0, 1, 2, 3, 4)
}

// What fits is saved and loaded, the greatest fields too.
func TestP704Fields(t *testing.T) {
	_, s, k := three(t)
	full := api.Node{Links: 64, Size: api.MaxFile, Owned: api.MaxSectors, Single: 2047, Double: 2046}
	for i := range full.Direct {
		full.Direct[i] = 2047 - i
	}
	list := []api.Node{{}, full, {Links: 1}, {Size: 1}, {Owned: 1}, {Single: 1}, {Double: 1}, {Direct: [10]int{9: 1}}}
	for number, kind := range []int{1: api.KDir, 2: api.KFile, 3: api.KLink} {
		for _, n := range list {
			if number == 0 {
				continue
			}
			n.Kind = kind
			if kind == api.KDir {
				n.Parent = 1024 // the table has no such node, but the record may say it
			}
			is(t, "Save", k.Save(number, n), api.OK)
			loads(t, k, number, n, api.OK)
			if !bytes.Equal(raw(t, k, number), record(t, n)) {
				t.Fatalf("the slot of node %d holds %v", number, raw(t, k, number))
			}
		}
	}
	is(t, "Commit", k.Commit(), api.OK)
	loads(t, begun(t, s), 2, api.Node{Kind: 1, Direct: [10]int{9: 1}}, api.OK)
}

// wrong are nodes that no record tells.
var wrong = []api.Node{
	{}, {Links: 1}, {Size: 1}, {Parent: 1}, {Kind: -1}, {Kind: 4}, {Kind: 256 + 1},
	{Kind: 1, Links: -1}, {Kind: 1, Links: 65}, {Kind: 1, Links: 65536},
	{Kind: 1, Parent: 1}, {Kind: 3, Parent: 1}, {Kind: 2}, {Kind: 2, Parent: -1}, {Kind: 2, Parent: 1025},
	{Kind: 1, Size: -1}, {Kind: 1, Size: api.MaxFile + 1}, {Kind: 1, Size: math.MaxInt},
	{Kind: 1, Owned: -1}, {Kind: 1, Owned: 2049},
	{Kind: 1, Direct: [10]int{-1}}, {Kind: 1, Direct: [10]int{9: 2048}},
	{Kind: 1, Single: 2048}, {Kind: 1, Single: -1}, {Kind: 1, Double: 2048}, {Kind: 1, Double: -1 << 40},
}

// What does not fit is refused ahead of what the slot holds, and nothing is changed.
func TestP704Wrong(t *testing.T) {
	_, _, k := three(t)
	is(t, "Put", k.Put(3, fill('x')), api.OK)
	was := blocks(t, k)
	for _, n := range wrong {
		for _, number := range []int{1, 2, 3, 4, 5, 8} {
			is(t, "Save", k.Save(number, n), api.ErrField)
		}
	}
	is(t, "State", k.State(), api.OK)
	if list := unlike(was, blocks(t, k)); list != nil {
		t.Fatalf("Save with wrong fields has put %v", list)
	}
}

// A node keeps its kind.
func TestP704Kind(t *testing.T) {
	_, _, k := three(t)
	was := blocks(t, k)
	right := []api.Node{{Kind: 1}, {Kind: 2, Parent: 1}, {Kind: 3}}
	for number, kind := range []int{1: 2, 2: 1, 3: 3, 4: 1} {
		for _, n := range right {
			if number > 0 && n.Kind != kind {
				is(t, "Save", k.Save(number, n), api.ErrArg)
			}
		}
	}
	for _, n := range right {
		is(t, "Save", k.Save(5, n), api.ErrNode)
	}
	is(t, "State", k.State(), api.OK)
	if list := unlike(was, blocks(t, k)); list != nil {
		t.Fatalf("a refused Save has put %v", list)
	}
}

// What Free refuses it leaves as it is; what it frees leaves zeros and a free number.
func TestP705(t *testing.T) {
	_, _, k := three(t)
	was := blocks(t, k)
	is(t, "Free", k.Free(5), api.ErrNode)
	is(t, "Free", k.Free(4), api.ErrOwned)
	is(t, "State", k.State(), api.OK)
	if list := unlike(was, blocks(t, k)); list != nil {
		t.Fatalf("a refused Free has put %v", list)
	}
	for _, number := range []int{2, 1, 3} { // pointers, links and a size do not hold it
		n, e := k.Load(number)
		is(t, "Load", e, api.OK)
		n.Links, n.Size, n.Single, n.Direct[3] = 9, 8, 7, 6
		is(t, "Save", k.Save(number, n), api.OK)
		is(t, "Free", k.Free(number), api.OK)
		if !bytes.Equal(raw(t, k, number), make([]byte, 128)) {
			t.Fatalf("the slot of node %d holds %v", number, raw(t, k, number))
		}
		is(t, "DropNode", k.DropNode(number), api.ErrFree)
		is(t, "Free", k.Free(number), api.ErrNode)
	}
	all(t, k, 0, 4)
	for _, owned := range []int{1, 2, api.MaxSectors} {
		is(t, "Save", k.Save(4, api.Node{Kind: 1, Owned: owned}), api.OK)
		is(t, "Free", k.Free(4), api.ErrOwned)
	}
}

// A node that owns blocks and whose number is free: what the slot says goes ahead.
func TestP705Order(t *testing.T) {
	_, _, k := three(t)
	is(t, "Put", k.Put(1, fill(0)), api.OK)
	was := blocks(t, k)
	is(t, "Free", k.Free(4), api.ErrOwned)
	is(t, "Free", k.Free(5), api.ErrNode)
	for _, number := range []int{1, 2, 3} {
		is(t, "Free", k.Free(number), api.ErrFree)
	}
	if list := unlike(was, blocks(t, k)); list != nil {
		t.Fatalf("a refused Free has put %v", list)
	}
	is(t, "Put", k.Put(2, fill('x')), api.OK)
	is(t, "Free", k.Free(4), api.ErrCorrupt)
	asks(t, k, api.ErrCorrupt)
}

func TestP706Kinds(t *testing.T) {
	for _, form := range forms {
		_, s, k := fresh(t, form)
		all(t, k, 0)
		want := [4][]int{}
		for number := 1; number <= form.Nodes; number++ {
			kind := []int{1, 2, 3, 1, 1, 3}[number*number%6]
			makes(t, k, kind, []int{0, 0, 1, 0}[kind], number, api.OK)
			if number%5 == 0 || number == form.Nodes {
				is(t, "Free", k.Free(number), api.OK)
				_, e := k.TakeNode() // so that the next one is made behind it
				is(t, "TakeNode", e, api.OK)
			} else {
				want[kind] = append(want[kind], number)
				want[0] = append(want[0], number)
			}
			if number%16 == 0 {
				is(t, "Commit", k.Commit(), api.OK)
				k = begun(t, s)
			}
		}
		for kind, list := range want {
			all(t, k, kind, list...)
		}
		for _, kind := range []int{math.MinInt, -1, 4, 5, 256, math.MaxInt} {
			allRefused(t, k, kind, api.ErrArg)
		}
		is(t, "State", k.State(), api.OK)
	}
}

// A broken slot anywhere in the table is told, whichever kind is asked for; but behind a wrong kind.
func TestP706Broken(t *testing.T) {
	for _, form := range forms[:4] {
		_, s, k := fresh(t, form)
		makes(t, k, api.KFile, 0, 1, api.OK)
		is(t, "Commit", k.Commit(), api.OK)
		for number := 1; number <= form.Nodes; number++ {
			k = begun(t, s)
			lay(t, k, number, []byte{126: 1})
			allRefused(t, k, 4, api.ErrArg)
			allRefused(t, k, number%4, api.ErrCorrupt)
			asks(t, k, api.ErrCorrupt)
			is(t, "Abort", k.Abort(), api.OK)
		}
		k = begun(t, s)
		is(t, "Put", k.Put(k.Layout().Data, fill(1)), api.OK) // a data block is no table
		is(t, "Put", k.Put(0, fill(1)), api.OK)
		is(t, "Put", k.Put(1, fill(1)), api.OK)
		all(t, k, 0, 1)
	}
}

// What is answered is new memory.
func TestP706NewMemory(t *testing.T) {
	_, _, k := three(t)
	list, e := k.All(0)
	is(t, "All", e, api.OK)
	list = append(list, 99)
	clear(list[:cap(list)])
	all(t, k, 0, 1, 2, 3, 4)
}

// put is a call, and the blocks that it puts.
type put = trial.Call[*node.Table]

var puts = []put{
	{What: "Make", Puts: []int{1, 2}, Do: func(k *node.Table) api.Errno { _, e := k.Make(api.KFile, 0); return e }},
	{What: "Save", Puts: []int{2}, Do: func(k *node.Table) api.Errno { return k.Save(2, api.Node{Kind: 1, Size: 5}) }},
	{What: "Free", Puts: []int{1, 2}, Do: func(k *node.Table) api.Errno { return k.Free(2) }},
	{What: "Save of the same", Do: func(k *node.Table) api.Errno { return k.Save(2, api.Node{Kind: 1}) }},
	{What: "Load", Do: func(k *node.Table) api.Errno { _, e := k.Load(2); return e }},
	{What: "All", Do: func(k *node.Table) api.Errno { _, e := k.All(0); return e }},
	{What: "Make of no kind", Do: func(k *node.Table) api.Errno { _, e := k.Make(0, 0); return e }, Want: api.ErrArg},
	{What: "Make without a parent", Do: func(k *node.Table) api.Errno { _, e := k.Make(api.KDir, 0); return e }, Want: api.ErrRange},
	{What: "Load of none", Do: func(k *node.Table) api.Errno { _, e := k.Load(5); return e }, Want: api.ErrNode},
	{What: "Save of none", Do: func(k *node.Table) api.Errno { return k.Save(5, api.Node{Kind: 1}) }, Want: api.ErrNode},
	{What: "Save of no number", Do: func(k *node.Table) api.Errno { return k.Save(9, api.Node{Kind: 1}) }, Want: api.ErrRange},
	{What: "Save of no field", Do: func(k *node.Table) api.Errno { return k.Save(2, api.Node{Kind: 1, Size: -1}) }, Want: api.ErrField},
	{What: "Save of another kind", Do: func(k *node.Table) api.Errno { return k.Save(2, api.Node{Kind: 3, Size: 5}) }, Want: api.ErrArg},
	{What: "Free of none", Do: func(k *node.Table) api.Errno { return k.Free(5) }, Want: api.ErrNode},
	{What: "Free of no number", Do: func(k *node.Table) api.Errno { return k.Free(0) }, Want: api.ErrRange},
	{What: "Free of an owner", Do: func(k *node.Table) api.Errno { return k.Free(4) }, Want: api.ErrOwned},
	{What: "Free of a free number", Do: func(k *node.Table) api.Errno { return k.Free(3) }, Want: api.ErrFree},
	{What: "All of no kind", Do: func(k *node.Table) api.Errno { _, e := k.All(4); return e }, Want: api.ErrArg},
}

// ready is a small store as three tells it, whose number 3 is free though its slot holds a node.
func ready(t *testing.T) (*disk.Disk, *store.Store, *node.Table) {
	t.Helper()
	d, s, k := three(t)
	is(t, "Put", k.Put(1, append([]byte{1 + 2 + 8}, make([]byte, 511)...)), api.OK)
	is(t, "Commit", k.Commit(), api.OK)
	return d, s, begun(t, s)
}

func putting(t *testing.T) *trial.Puts[*node.Table] {
	p := &trial.Puts[*node.Table]{
		T:       t,
		Ready:   func() (*disk.Disk, *store.Store, *node.Table) { return ready(t) },
		Refused: func(k *node.Table, want api.Errno) { asks(t, k, want) },
		Calls:   puts,
	}
	for b := 4; b < 43; b++ {
		p.Others = append(p.Others, b)
	}
	return p
}

func TestP707Puts(t *testing.T)   { putting(t).Blocks() }
func TestP707Budget(t *testing.T) { putting(t).Budget() }

// With a block too many and no number either, or a broken slot, that goes ahead of the budget.
func TestP707BudgetLast(t *testing.T) {
	_, s, k := three(t)
	is(t, "Put", k.Put(1, fill(255)), api.OK)
	is(t, "Put", k.Put(3, fill('x')), api.OK)
	is(t, "Commit", k.Commit(), api.OK)
	for _, c := range []put{
		{What: "Make", Do: func(k *node.Table) api.Errno { _, e := k.Make(api.KFile, 0); return e }, Want: api.ErrNoNodes},
		{What: "Save", Do: func(k *node.Table) api.Errno { return k.Save(5, api.Node{Kind: 1}) }, Want: api.ErrCorrupt},
		{What: "Free", Do: func(k *node.Table) api.Errno { return k.Free(5) }, Want: api.ErrCorrupt},
		{What: "Save", Do: func(k *node.Table) api.Errno { return k.Save(2, api.Node{Kind: 1, Links: 1}) }, Want: api.ErrBudget},
		{What: "Free", Do: func(k *node.Table) api.Errno { return k.Free(2) }, Want: api.ErrBudget},
	} {
		k = begun(t, s)
		putOthers(t, k, 16)
		is(t, c.What, c.Do(k), c.Want)
		asks(t, k, c.Want)
		is(t, "Abort", k.Abort(), api.OK)
	}
}

// Blocks that were put already may be put again.
func TestP707BudgetAgain(t *testing.T) {
	_, _, k := three(t)
	makes(t, k, api.KFile, 0, 5, api.OK)
	putOthers(t, k, 14)
	for number := 6; number <= 8; number++ {
		makes(t, k, api.KDir, number, number, api.OK)
	}
	is(t, "Save", k.Save(5, api.Node{Kind: 1, Size: 4}), api.OK)
	is(t, "Free", k.Free(5), api.OK)
	is(t, "Save", k.Save(2, api.Node{Kind: 1}), api.OK) // as it was
	is(t, "Save", k.Save(2, api.Node{Kind: 1, Size: 4}), api.ErrBudget)
	asks(t, k, api.ErrBudget)
}

// The neighbours of a slot stay byte for byte as they are, whatever they are.
func TestP707Neighbours(t *testing.T) {
	d := newDice(707)
	for number := 1; number <= 8; number++ {
		_, _, k := fresh(t, small)
		block, from := 2+(number-1)/4, 128*((number-1)%4)
		junk := d.Bytes(512)
		is(t, "Put", k.Put(block, junk), api.OK)
		bits := fill(255)
		bits[0] -= 1 << (number - 1)
		is(t, "Put", k.Put(1, bits), api.OK)
		same := func(what string, held []byte) {
			t.Helper()
			if want := slices.Concat(junk[:from], held, junk[from+128:]); !bytes.Equal(get(t, k, block), want) {
				t.Fatalf("P707: behind %s of node %d its block holds other bytes", what, number)
			}
		}
		makes(t, k, api.KDir, 3, number, api.OK)
		same("Make", record(t, api.Node{Kind: 2, Links: 2, Parent: 3}))
		is(t, "Save", k.Save(number, api.Node{Kind: 2, Parent: 1, Size: 512}), api.OK)
		same("Save", record(t, api.Node{Kind: 2, Parent: 1, Size: 512}))
		is(t, "Free", k.Free(number), api.OK)
		same("Free", make([]byte, 128))
	}
}
