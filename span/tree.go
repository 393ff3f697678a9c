package span

import (
	"vellum/api"
	"vellum/fan"
	"vellum/halt"
)

// tree is a node with those of its pointers that lead to the indexes from to to-1.
type tree struct {
	*Map
	number   int
	node     api.Node
	from, to int
}

// pointer is where the number of a block stands, or 0: none. What is written there is kept by the tree.
type pointer struct {
	block *int
	first int // the lowest index that it leads to
	level int // of indirect blocks below it; 0: it names a data block
}

// tree gives up where the transaction may not be asked, or there are no such indexes, or no such node. (Behind the greatest int comes the lowest one, so that is no index either.)
func (m *Map) tree(node, from, to int) *tree {
	halt.On(m.State())
	halt.If(from < 0 || to < from || to > api.MaxIndex, api.ErrRange)
	return &tree{Map: m, number: node, node: halt.Got(m.Load(node)), from: from, to: to}
}

// through goes through the pointers of the tree, by rising indexes, one in an indirect block behind the one that names the block, and hands each to do, which may change it.
func (t *tree) through(do func(pointer)) {
	for i := range t.node.Direct {
		t.visit(pointer{block: &t.node.Direct[i], first: i, level: 0}, do)
	}
	t.visit(pointer{block: &t.node.Single, first: api.Direct, level: 1}, do)
	t.visit(pointer{block: &t.node.Double, first: api.Direct + api.Fan, level: 2}, do)
}

// visit hands a pointer to do, and then those to which it leads; but none that leads to other indexes alone.
func (t *tree) visit(p pointer, do func(pointer)) {
	if p.first >= t.to || p.first+fan.Reach(p.level) <= t.from {
		return
	}
	halt.If(*p.block != 0 && !t.isData(*p.block), api.ErrCorrupt)
	do(p)
	if p.level > 0 && *p.block != 0 {
		t.descend(p, do)
	}
}

// descend visits the pointers in an indirect block. If they are changed then, the block is put, or, as it is there just while it holds a pointer, freed.
func (t *tree) descend(p pointer, do func(pointer)) {
	was := fan.Read(halt.Got(t.Get(*p.block)))
	now := was
	for i := range now {
		t.visit(pointer{block: &now[i], first: p.first + i*fan.Reach(p.level-1), level: p.level - 1}, do)
	}
	switch now {
	case was:
	case fan.Row{}:
		t.drop(p)
	default:
		halt.On(t.Put(*p.block, now.Bytes()))
	}
}

// data goes through the pointers that name data blocks.
func (t *tree) data(do func(pointer)) {
	t.through(func(p pointer) {
		if p.level == 0 && *p.block != 0 {
			do(p)
		}
	})
}

// search tells the block at the one index of the tree, and how many blocks are missing there, indirect ones too.
func (t *tree) search() (block, missing int) {
	t.through(func(p pointer) {
		block = *p.block
		if block == 0 {
			missing = p.level + 1
		}
	})
	return block, missing
}

// grow takes what is missing at the one index of the tree, and tells the block there.
func (t *tree) grow() int {
	block := 0
	t.through(func(p pointer) {
		if *p.block == 0 {
			t.take(p)
		}
		block = *p.block
	})
	t.save()
	return block
}

// punch frees the data blocks of the tree. It goes through them once ahead of that, as a broken pointer must be told ahead of a put that is one too many.
func (t *tree) punch() {
	held := 0
	t.data(func(pointer) { held++ })
	if held > 0 {
		t.data(t.drop)
		t.save()
	}
}

// runs are the rows of the indexes that hold a block.
func (t *tree) runs() []api.Run {
	var runs []api.Run
	t.data(func(p pointer) {
		if last := len(runs) - 1; last >= 0 && runs[last].To == p.first {
			runs[last].To++
			return
		}
		runs = append(runs, api.Run{From: p.first, To: p.first + 1})
	})
	return runs
}

// take lets a pointer name a block of zeros.
func (t *tree) take(p pointer) {
	*p.block = halt.Got(t.TakeBlock())
	halt.On(t.Put(*p.block, make([]byte, api.Size)))
	t.node.Owned++
}

// drop frees the block that a pointer names.
func (t *tree) drop(p pointer) {
	halt.On(junked(t.DropBlock(*p.block), api.ErrFree))
	*p.block = 0
	t.node.Owned--
}

func (t *tree) save() { halt.On(junked(t.Save(t.number, t.node), api.ErrField)) }

// junked is an answer of a layer below, which by that error tells that the node's pointers or its count were junk. The error itself would not spoil the transaction, of which a part is changed by then.
func junked(e, tells api.Errno) api.Errno {
	if e == tells {
		return api.ErrCorrupt
	}
	return e
}

func (m *Map) isData(block int) bool {
	l := m.Layout()
	return block >= l.Data && block < l.Blocks
}

// mustHave gives up where fewer data blocks are free.
func (m *Map) mustHave(blocks int) {
	free, _, e := m.Left()
	halt.On(e)
	halt.If(free < blocks, api.ErrNoSpace)
}
