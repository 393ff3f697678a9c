package trial

import (
	"vellum/api"
	"vellum/codec"
	"vellum/disk"
	"vellum/store"
)

// Nodes is what a view has that knows the table of the nodes.
type Nodes interface {
	View
	Load(number int) (api.Node, api.Errno)
	Save(number int, n api.Node) api.Errno
}

// Junk plays drawn calls of a view over drawn blocks, and asks for what holds there too.
type Junk[V Nodes] struct {
	T    T
	Dice *Dice
	Disk *disk.Disk
	On   func(tx *store.Tx) V
	Mess func()                    // lays junk of the view's own kind; none, if it is nil
	Call func() api.Errno          // plays one drawn call, and asks for what is answered beside its error
	Dead func(v V, want api.Errno) // asks that the view, whose transaction is spoilt, refuses its calls
	View V
}

// Play plays so many transactions on the store of the disk, each with some junk and some calls, and tells how often each error was answered.
func (j *Junk[V]) Play(s *store.Store, rounds int) map[api.Errno]int {
	j.T.Helper()
	answers := map[api.Errno]int{}
	for range rounds {
		j.View = j.On(Begun(j.T, s))
		for range 1 + j.Dice.Below(4) {
			j.mess()
		}
		refused := j.Disk.Counts().Refused
		for range 1 + j.Dice.Below(3) {
			e := j.call()
			answers[e]++
			if e != api.OK && j.View.State() != api.OK {
				break
			}
		}
		if j.Disk.Counts().Refused != refused {
			j.T.Fatalf("P9: the disk was asked for what it has not")
		}
		j.end()
	}
	return answers
}

// call plays one: what is refused changes nothing, or spoils the transaction.
func (j *Junk[V]) call() api.Errno {
	j.T.Helper()
	was := Blocks(j.T, j.View)
	e := j.Call()
	switch e {
	case api.ErrCorrupt, api.ErrBudget, api.ErrNoSpace, api.ErrNoNodes:
		Is(j.T, "State", j.View.State(), e)
		j.Dead(j.View, e)
		return e
	}
	Is(j.T, "State", j.View.State(), api.OK)
	if list := Unlike(was, Blocks(j.T, j.View)); e != api.OK && list != nil {
		j.T.Fatalf("P4: %v, and %v are changed", e, list)
	}
	return e
}

func (j *Junk[V]) end() {
	j.T.Helper()
	if j.View.State() != api.OK || j.Dice.Below(2) == 0 {
		Is(j.T, "Abort", j.View.Abort(), api.OK)
		return
	}
	Is(j.T, "Commit", j.View.Commit(), api.OK)
}

// Block draws a data block.
func (j *Junk[V]) Block() int {
	l := j.View.Layout()
	return l.Data + j.Dice.Below(l.Blocks-l.Data)
}

// pointer draws one; most of them name data blocks, some the same ones.
func (j *Junk[V]) pointer() int {
	l := j.View.Layout()
	return One(j.Dice, 0, 0, j.Block(), j.Block(), j.Block(), l.Data+j.Dice.Below(6), l.Data+16, l.Data+17, One(j.Dice, l.Data+16, l.Data+18, l.Blocks-1, l.Blocks, 1, 2047))
}

// mess lays junk: a bitmap, an indirect block, a node, or what the view knows besides.
func (j *Junk[V]) mess() {
	j.T.Helper()
	if j.Mess != nil && j.Dice.Below(3) == 0 {
		j.Mess()
		return
	}
	d := j.Dice
	block, data := j.Block(), d.Bytes(api.Size)
	switch d.Below(8) {
	case 0:
		block = 0
	case 1:
		block, data = 0, Fill(One(d, byte(255), 0, 15))
	case 2, 3:
		data = Indirect(map[int]int{d.Below(128): j.pointer(), 0: j.pointer(), 127: j.pointer()})
	case 4:
		pointers := map[int]int{}
		for place := range 128 {
			pointers[place] = j.Block()
		}
		data = Indirect(pointers)
	default:
		j.node()
		return
	}
	Is(j.T, "Put", j.View.Put(block, data), api.OK)
}

// node lays drawn pointers, a count and a size into one of the first three nodes, which must be there.
func (j *Junk[V]) node() {
	j.T.Helper()
	d := j.Dice
	number := 1 + d.Below(3)
	n, e := j.View.Load(number)
	Is(j.T, "Load", e, api.OK)
	n.Single, n.Double = j.pointer(), j.pointer()
	n.Owned = One(d, 0, 1, 2, 20, 2048, d.Below(2049))
	n.Size = One(d, 0, d.Below(20000), d.Below(api.MaxFile), api.MaxFile)
	for i := range n.Direct {
		n.Direct[i] = j.pointer()
	}
	Is(j.T, "Save", j.View.Save(number, n), api.OK)
}

// Indirect is an indirect block with these pointers, by their places: four bytes each, the lowest first.
func Indirect(pointers map[int]int) []byte {
	data := make([]byte, api.Size)
	for place, pointer := range pointers {
		for k := range 4 {
			data[4*place+k] = byte(pointer >> (8 * k))
		}
	}
	return data
}

// Dir lays a directory of two blocks that are named wherever it falls, into a node that must be one: one with entries, one with pointers, if any; its count and its size are drawn. It tells the name of an entry.
func (j *Junk[V]) Dir(number int, entry func() api.Entry) string {
	j.T.Helper()
	d := j.Dice
	entries, other := j.Block(), j.Block()
	n, e := j.View.Load(number)
	Is(j.T, "Load", e, api.OK)
	n.Size = api.Size * One(d, 1, 2, 3, 10, 11, 12, 138, 139, 140, 300, api.MaxIndex)
	n.Owned = d.Below(20)
	for i := range n.Direct {
		n.Direct[i] = One(d, 0, 0, 0, other, One(d, other, j.Block()))
	}
	n.Direct[d.Below(api.Direct)] = entries
	n.Single, n.Double = One(d, 0, other, entries), One(d, 0, 0, other)
	Is(j.T, "Save", j.View.Save(number, n), api.OK)
	pointers := map[int]int{}
	for range d.Below(3) {
		pointers[d.Below(api.Fan)] = One(d, other, j.Block(), j.View.Layout().Blocks)
	}
	Is(j.T, "Put", j.View.Put(other, Indirect(pointers)), api.OK)
	data, last := j.entries(entry)
	Is(j.T, "Put", j.View.Put(entries, data), api.OK)
	return last
}

// entries are the bytes of a block of some, which now and then are the same ones, or broken; and the last one's name.
func (j *Junk[V]) entries(draw func() api.Entry) (data []byte, last string) {
	j.T.Helper()
	d := j.Dice
	for range api.Size / api.EntryBytes {
		var entry api.Entry
		if d.Below(3) == 0 {
			entry = draw()
			last = entry.Name
		}
		record, e := codec.EncodeEntry(entry)
		Is(j.T, "EncodeEntry", e, api.OK)
		data = append(data, record...)
	}
	if d.Below(10) == 0 {
		data[d.Below(api.Size)]++
	}
	return data, last
}
