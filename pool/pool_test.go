package pool_test

import (
	"bytes"
	"math"
	"testing"

	"vellum/api"
	"vellum/disk"
	"vellum/pool"
	"vellum/store"
	"vellum/trial"
)

// The store of the chapter's examples: Blocks 43, Data 3.
var small = api.Super{Sectors: 64, Log: 18, Nodes: 4}

// Stores whose bitmaps begin and end at unlike places of a byte, the least and the greatest among them.
var forms = []api.Super{
	small,
	{Sectors: 25, Log: 18, Nodes: 4},      // one data block
	{Sectors: 64, Log: 18, Nodes: 24},     // Data 8
	{Sectors: 61, Log: 18, Nodes: 20},     // Data 7, Blocks 40
	{Sectors: 68, Log: 24, Nodes: 28},     // Data 9, Blocks 41
	{Sectors: 600, Log: 256, Nodes: 1024}, // Data 258, all nodes that may be
	{Sectors: 2048, Log: 18, Nodes: 1024}, // Blocks 2027, the most that may be
	{Sectors: 2048, Log: 19, Nodes: 1020}, // Data 257
	{Sectors: 2048, Log: 256, Nodes: 4},   // most data blocks with the longest log
	{Sectors: 2048, Log: 21, Nodes: 12},   // Blocks 2024: its last byte is whole
}

// Short names of what the tests of all views share.
var (
	is        = trial.Is
	fill      = trial.Fill
	formatted = trial.Formatted
	opened    = trial.Opened
	newDice   = trial.NewDice
)

// gives asks for a call's number and error.
func gives(t *testing.T, what string, want int, wantE api.Errno) func(int, api.Errno) {
	return func(got int, e api.Errno) {
		t.Helper()
		if got != want || e != wantE {
			t.Fatalf("%s: %d, %v, want %d, %v", what, got, e, want, wantE)
		}
	}
}

func left(t *testing.T, p *pool.Pool, blocks, nodes int, want api.Errno) {
	t.Helper()
	if b, n, e := p.Left(); b != blocks || n != nodes || e != want {
		t.Fatalf("Left: %d, %d, %v, want %d, %d, %v", b, n, e, blocks, nodes, want)
	}
}

// begun is a pool on a new transaction.
func begun(t *testing.T, s *store.Store) *pool.Pool {
	t.Helper()
	return pool.On(trial.Begun(t, s))
}

// fresh is a store of that form and a pool on it, behind Clear.
func fresh(t *testing.T, form api.Super) (*disk.Disk, *store.Store, *pool.Pool) {
	t.Helper()
	d := formatted(t, form)
	s := opened(t, d)
	p := begun(t, s)
	is(t, "Clear", p.Clear(), api.OK)
	return d, s, p
}

// laid asks for the bytes with which a bitmap begins; behind them it is zero.
func laid(t *testing.T, p *pool.Pool, bitmap int, want ...byte) {
	t.Helper()
	if data := trial.Get(t, p.Tx, bitmap); !bytes.Equal(data, append(want, make([]byte, 512-len(want))...)) {
		t.Fatalf("bitmap %d: % x .., want % x, and zeros", bitmap, data[:8], want)
	}
}

func TestP601Examples(t *testing.T) {
	_, _, p := fresh(t, small)
	laid(t, p, 0, 7)
	laid(t, p, 1)
	left(t, p, 40, 4, api.OK)

	for _, want := range []int{3, 4, 5} {
		gives(t, "TakeBlock", want, api.OK)(p.TakeBlock())
	}
	is(t, "DropBlock(4)", p.DropBlock(4), api.OK)
	gives(t, "TakeBlock", 4, api.OK)(p.TakeBlock())
	gives(t, "TakeBlock", 6, api.OK)(p.TakeBlock())
	laid(t, p, 0, 127)
	left(t, p, 36, 4, api.OK)

	for _, b := range []int{2, 43, -1} {
		is(t, "DropBlock", p.DropBlock(b), api.ErrRange)
	}
	is(t, "DropBlock(42)", p.DropBlock(42), api.ErrFree)

	for want := 1; want <= 3; want++ {
		gives(t, "TakeNode", want, api.OK)(p.TakeNode())
	}
	is(t, "DropNode(0)", p.DropNode(0), api.ErrRange)
	is(t, "DropNode(5)", p.DropNode(5), api.ErrRange)
	is(t, "DropNode(4)", p.DropNode(4), api.ErrFree)
	laid(t, p, 1, 7)
	gives(t, "TakeNode", 4, api.OK)(p.TakeNode())
	gives(t, "TakeNode", 0, api.ErrNoNodes)(p.TakeNode())
	gives(t, "TakeBlock", 0, api.ErrNoNodes)(p.TakeBlock())
	is(t, "Abort", p.Abort(), api.OK)
	left(t, p, 0, 0, api.ErrEnded)

	_, _, p = fresh(t, small)
	for range 40 {
		_, e := p.TakeBlock()
		is(t, "TakeBlock", e, api.OK)
	}
	laid(t, p, 0, 255, 255, 255, 255, 255, 7)
	gives(t, "TakeBlock", 0, api.ErrNoSpace)(p.TakeBlock())
}

// The methods of the transaction are the pool's too, and On asks for nothing, whatever has become of the transaction.
func TestP601On(t *testing.T) {
	d := formatted(t, small)
	s := opened(t, d)
	tx, e := s.Begin()
	is(t, "Begin", e, api.OK)
	was := d.Counts()
	p := pool.On(tx)
	if p == nil || p.Tx != tx {
		t.Fatal("On: not a pool on that transaction")
	}
	if d.Counts() != was {
		t.Fatalf("On: the disk was asked %+v, and %+v before", d.Counts(), was)
	}
	is(t, "State", p.State(), api.OK)
	if p.Layout() != tx.Layout() {
		t.Fatal("the pool's Layout is not the transaction's")
	}
	is(t, "Commit", tx.Commit(), api.OK)
	left(t, pool.On(tx), 0, 0, api.ErrEnded)
	d.Crash(nil)
	left(t, pool.On(tx), 0, 0, api.ErrDead)
}

// asks makes every call, with arguments that are right and wrong, and wants of each that error and zeros beside it.
func asks(t *testing.T, p *pool.Pool, want api.Errno) {
	t.Helper()
	is(t, "Clear", p.Clear(), want)
	gives(t, "TakeBlock", 0, want)(p.TakeBlock())
	gives(t, "TakeNode", 0, want)(p.TakeNode())
	for _, n := range []int{math.MinInt, -1, 0, 1, 2, 3, 4, 42, 43, math.MaxInt} {
		is(t, "DropBlock", p.DropBlock(n), want)
		is(t, "DropNode", p.DropNode(n), want)
	}
	left(t, p, 0, 0, want)
}

func TestP601State(t *testing.T) {
	for _, c := range trial.Endings() {
		d, s, p := fresh(t, small)
		c.End(d, s, p.Tx)
		is(t, c.What, p.State(), c.Want)
		asks(t, p, c.Want)
		is(t, c.What, p.State(), c.Want)
	}
}

// The numbers that may be dropped, at both ends, on stores of many forms.
func TestP601Range(t *testing.T) {
	for _, form := range forms {
		_, s, p := fresh(t, form)
		l := s.Layout()
		for _, b := range []int{math.MinInt, -l.Data, -1, 0, 1, 2, l.Data - 1, l.Blocks, l.Blocks + 1, 4095, 4096, 4096 + l.Data, math.MaxInt - 1, math.MaxInt} {
			is(t, "DropBlock", p.DropBlock(b), api.ErrRange)
		}
		for _, k := range []int{math.MinInt, math.MinInt + 1, -l.Nodes, -1, 0, l.Nodes + 1, l.Nodes + 2, 4096, 4097, math.MaxInt} {
			is(t, "DropNode", p.DropNode(k), api.ErrRange)
		}
		// The range goes ahead of what the bitmaps hold.
		is(t, "Put", p.Put(0, fill(255)), api.OK)
		is(t, "Put", p.Put(1, fill(255)), api.OK)
		is(t, "DropBlock", p.DropBlock(l.Data-1), api.ErrRange)
		is(t, "DropBlock", p.DropBlock(l.Blocks), api.ErrRange)
		is(t, "DropNode", p.DropNode(0), api.ErrRange)
		is(t, "DropNode", p.DropNode(l.Nodes+1), api.ErrRange)
		for b := l.Data; b < l.Blocks; b += max(1, l.Blocks-1-l.Data) { // the first and the last, which may be one
			is(t, "DropBlock", p.DropBlock(b), api.OK)
			is(t, "DropBlock again", p.DropBlock(b), api.ErrFree)
		}
		for _, k := range []int{1, l.Nodes} {
			is(t, "DropNode", p.DropNode(k), api.OK)
			is(t, "DropNode again", p.DropNode(k), api.ErrFree)
		}
		is(t, "State", p.State(), api.OK) // neither of these errors spoils
	}
}

// Clear lays the same over whatever was there.
func TestP601Clear(t *testing.T) {
	for i, form := range forms {
		s := opened(t, formatted(t, form))
		p := begun(t, s)
		d := newDice(600 + i)
		for _, junk := range [][]byte{fill(0), fill(255), d.Bytes(512)} {
			is(t, "Put", p.Put(0, junk), api.OK)
			is(t, "Put", p.Put(1, junk), api.OK)
			is(t, "Clear", p.Clear(), api.OK)
			l := s.Layout()
			want := make([]byte, 512)
			for b := range l.Data {
				want[b/8] += 1 << (b % 8)
			}
			laid(t, p, 0, want...)
			laid(t, p, 1)
			left(t, p, l.Blocks-l.Data, l.Nodes, api.OK)
		}
	}
}

// No call touches another block: not the content of what is taken and dropped, nor the table of the nodes. And none asks the disk for a write or a flush.
func TestP601NothingElse(t *testing.T) {
	d, s, p := fresh(t, small)
	is(t, "Commit", p.Commit(), api.OK)
	for from := 2; from < 43; from += 16 {
		p = begun(t, s)
		for b := from; b < min(from+16, 43); b++ {
			is(t, "Put", p.Put(b, fill(byte(b))), api.OK)
		}
		is(t, "Commit", p.Commit(), api.OK)
	}
	p = begun(t, s)
	was := d.Counts()
	unlike := func(what string, e api.Errno) {
		t.Helper()
		is(t, what, e, api.OK)
		for b := 2; b < 43; b++ {
			if !bytes.Equal(trial.Get(t, p.Tx, b), fill(byte(b))) {
				t.Fatalf("%s: block %d holds other bytes", what, b)
			}
		}
	}
	_, e := p.TakeBlock()
	unlike("TakeBlock", e)
	_, e = p.TakeNode()
	unlike("TakeNode", e)
	unlike("DropBlock", p.DropBlock(3))
	unlike("DropNode", p.DropNode(1))
	unlike("Clear", p.Clear())
	_, _, e = p.Left()
	unlike("Left", e)
	is(t, "DropBlock", p.DropBlock(3), api.ErrFree)
	is(t, "DropNode", p.DropNode(9), api.ErrRange)
	now := d.Counts()
	if now.Reads = was.Reads; now != was {
		t.Fatalf("the disk was asked %+v, and %+v before", now, was)
	}
}

// The bits beside those of the data blocks and of the nodes stay as they are, whatever they are.
func TestP601OtherBits(t *testing.T) {
	for i, form := range forms {
		s := opened(t, formatted(t, form))
		p := begun(t, s)
		l := s.Layout()
		d := newDice(650 + i)
		blocks, nodes := d.Bytes(512), d.Bytes(512)
		is(t, "Put", p.Put(0, blocks), api.OK)
		is(t, "Put", p.Put(1, nodes), api.OK)
		for range 4 { // the model plays all kinds of calls: here all that can be taken is taken
			for b := l.Data; b < l.Blocks; b++ {
				if blocks[b/8]&(1<<(b%8)) == 0 {
					gives(t, "TakeBlock", b, api.OK)(p.TakeBlock())
					blocks[b/8] |= 1 << (b % 8)
				}
			}
			for k := 1; k <= l.Nodes; k++ {
				if nodes[(k-1)/8]&(1<<((k-1)%8)) == 0 {
					gives(t, "TakeNode", k, api.OK)(p.TakeNode())
					nodes[(k-1)/8] |= 1 << ((k - 1) % 8)
				}
			}
			laid(t, p, 0, blocks...)
			laid(t, p, 1, nodes...)
			left(t, p, 0, 0, api.OK)
			b, k := l.Data+d.Below(l.Blocks-l.Data), 1+d.Below(l.Nodes)
			is(t, "DropBlock", p.DropBlock(b), api.OK)
			is(t, "DropNode", p.DropNode(k), api.OK)
			blocks[b/8] &^= 1 << (b % 8)
			nodes[(k-1)/8] &^= 1 << ((k - 1) % 8)
			laid(t, p, 0, blocks...)
			laid(t, p, 1, nodes...)
			left(t, p, 1, 1, api.OK)
		}
	}
}

// Without a Clear too nothing below Data is given out.
func TestP601NeverLaid(t *testing.T) {
	for _, form := range forms {
		s := opened(t, formatted(t, form))
		p := begun(t, s)
		l := s.Layout()
		left(t, p, l.Blocks-l.Data, l.Nodes, api.OK)
		gives(t, "TakeBlock", l.Data, api.OK)(p.TakeBlock())
		gives(t, "TakeNode", 1, api.OK)(p.TakeNode())
		want := make([]byte, 512)
		want[l.Data/8] = 1 << (l.Data % 8)
		laid(t, p, 0, want...)
		laid(t, p, 1, 1)
	}
}

// A pool keeps nothing: two on one transaction, and the transaction's own puts, are seen by each other at once.
func TestP601KeepsNothing(t *testing.T) {
	_, _, p := fresh(t, small)
	q := pool.On(p.Tx)
	gives(t, "TakeBlock", 3, api.OK)(p.TakeBlock())
	gives(t, "TakeBlock", 4, api.OK)(q.TakeBlock())
	is(t, "DropBlock", q.DropBlock(3), api.OK)
	gives(t, "TakeNode", 1, api.OK)(q.TakeNode())
	gives(t, "TakeNode", 2, api.OK)(p.TakeNode())
	is(t, "DropNode", p.DropNode(1), api.OK)
	is(t, "DropNode", q.DropNode(1), api.ErrFree)
	left(t, p, 39, 3, api.OK)
	left(t, q, 39, 3, api.OK)
	gives(t, "TakeBlock", 3, api.OK)(p.TakeBlock())
	is(t, "Put", p.Put(0, fill(254)), api.OK)
	is(t, "Put", p.Put(1, fill(253)), api.OK)
	left(t, q, 5, 1, api.OK)
	gives(t, "TakeBlock", 8, api.OK)(q.TakeBlock())
	gives(t, "TakeNode", 2, api.OK)(q.TakeNode())
	is(t, "Clear", q.Clear(), api.OK)
	gives(t, "TakeBlock", 3, api.OK)(p.TakeBlock())
	gives(t, "TakeNode", 1, api.OK)(p.TakeNode())
	is(t, "DropNode", p.DropNode(1), api.OK) // node 1 too
	gives(t, "TakeNode", 1, api.OK)(q.TakeNode())
	is(t, "Spoil", q.Spoil(api.ErrCorrupt), api.ErrCorrupt)
	asks(t, p, api.ErrCorrupt)
}

// Each call puts its own bitmap alone: where so many blocks were put before it, it is let through or refused with ErrBudget.
func TestP601Budget(t *testing.T) {
	calls := []struct {
		what string
		puts int // blocks that the call changes
		call func(p *pool.Pool) (int, api.Errno)
	}{
		{"TakeBlock", 1, (*pool.Pool).TakeBlock},
		{"TakeNode", 1, (*pool.Pool).TakeNode},
		{"DropBlock", 1, func(p *pool.Pool) (int, api.Errno) { return 0, p.DropBlock(5) }},
		{"DropNode", 1, func(p *pool.Pool) (int, api.Errno) { return 0, p.DropNode(2) }},
		{"Clear", 2, func(p *pool.Pool) (int, api.Errno) { return 0, p.Clear() }},
		{"Left", 0, func(p *pool.Pool) (int, api.Errno) { _, _, e := p.Left(); return 0, e }},
		{"DropBlock of a free one", 0, func(p *pool.Pool) (int, api.Errno) { return 0, p.DropBlock(20) }},
		{"DropNode of a free one", 0, func(p *pool.Pool) (int, api.Errno) { return 0, p.DropNode(4) }},
		{"DropBlock out of range", 0, func(p *pool.Pool) (int, api.Errno) { return 0, p.DropBlock(2) }},
	}
	for _, c := range calls {
		for others := 13; others <= 16; others++ {
			_, s, p := fresh(t, small)
			for range 5 {
				p.TakeBlock()
			}
			for range 3 {
				p.TakeNode()
			}
			is(t, "Commit", p.Commit(), api.OK)
			p = begun(t, s)
			trial.PutMany(t, p.Tx, 2, others)
			n, e := c.call(p)
			if others+c.puts > 16 {
				if n != 0 || e != api.ErrBudget {
					t.Fatalf("%s behind %d puts: %d, %v", c.what, others, n, e)
				}
				asks(t, p, api.ErrBudget)
				is(t, "Commit", p.Commit(), api.ErrBudget)
				is(t, "Abort", p.Abort(), api.OK)
				left(t, begun(t, s), 35, 1, api.OK)
				continue
			}
			if e == api.ErrBudget {
				t.Fatalf("%s behind %d puts: %v", c.what, others, e)
			}
			// What room is left tells how many blocks it has put.
			for free := 16 - others - c.puts; free >= 0; free-- {
				want := api.OK
				if free == 0 {
					want = api.ErrBudget
				}
				is(t, c.what+", then Put", p.Put(42-free, fill(7)), want)
			}
		}
	}
}

// A bitmap that was put already may be put again; and one that lies as it should is no put.
func TestP601BudgetAgain(t *testing.T) {
	_, s, p := fresh(t, small)
	is(t, "Commit", p.Commit(), api.OK)
	p = begun(t, s)
	trial.PutMany(t, p.Tx, 2, 16)
	is(t, "Clear", p.Clear(), api.OK)
	is(t, "Abort", p.Abort(), api.OK)

	p = begun(t, s)
	gives(t, "TakeBlock", 3, api.OK)(p.TakeBlock())
	trial.PutMany(t, p.Tx, 2, 15)
	for want := 4; want < 10; want++ {
		gives(t, "TakeBlock", want, api.OK)(p.TakeBlock())
	}
	is(t, "DropBlock", p.DropBlock(3), api.OK)
	is(t, "Clear", p.Clear(), api.OK) // the bitmap of the nodes is as it was
	gives(t, "TakeNode", 0, api.ErrBudget)(p.TakeNode())
	asks(t, p, api.ErrBudget)
}

// Where nothing is left, and nothing may be put either: the order of P6.
func TestP601Order(t *testing.T) {
	for _, c := range []struct {
		what string
		call func(p *pool.Pool) (int, api.Errno)
		want api.Errno
	}{
		{"TakeBlock", (*pool.Pool).TakeBlock, api.ErrNoSpace},
		{"TakeNode", (*pool.Pool).TakeNode, api.ErrNoNodes},
	} {
		_, s, p := fresh(t, small)
		is(t, "Put", p.Put(0, fill(255)), api.OK)
		is(t, "Put", p.Put(1, fill(255)), api.OK)
		is(t, "Commit", p.Commit(), api.OK)
		p = begun(t, s)
		trial.PutMany(t, p.Tx, 2, 16)
		gives(t, c.what, 0, c.want)(c.call(p))
		asks(t, p, c.want)
		is(t, "State", p.State(), c.want)
		is(t, "Commit", p.Commit(), c.want)
	}
}

func TestP602AllInOrder(t *testing.T) {
	for _, form := range forms {
		_, s, p := fresh(t, form)
		l := s.Layout()
		is(t, "Commit", p.Commit(), api.OK)
		p = begun(t, s)
		for b := l.Data; b < l.Blocks; b++ {
			left(t, p, l.Blocks-b, l.Nodes, api.OK)
			gives(t, "TakeBlock", b, api.OK)(p.TakeBlock())
		}
		for k := 1; k <= l.Nodes; k++ {
			left(t, p, 0, l.Nodes+1-k, api.OK)
			gives(t, "TakeNode", k, api.OK)(p.TakeNode())
		}
		left(t, p, 0, 0, api.OK)
		is(t, "Commit", p.Commit(), api.OK)
		p = begun(t, s)
		gives(t, "TakeBlock", 0, api.ErrNoSpace)(p.TakeBlock())
		asks(t, p, api.ErrNoSpace)
		is(t, "Abort", p.Abort(), api.OK)
		p = begun(t, s)
		gives(t, "TakeNode", 0, api.ErrNoNodes)(p.TakeNode())
		asks(t, p, api.ErrNoNodes)
	}
}

// Blocks and nodes that are held are not given out, in whatever order they are taken and dropped; and Left goes along.
func TestP602P603Drawn(t *testing.T) {
	for i, form := range forms {
		d := newDice(620 + i)
		_, s, p := fresh(t, form)
		l := s.Layout()
		blocks, nodes := map[int]bool{}, map[int]bool{}
		for range 600 {
			switch d.Below(8) {
			case 0, 1, 2:
				if len(blocks) < l.Blocks-l.Data {
					b, e := p.TakeBlock()
					is(t, "TakeBlock", e, api.OK)
					if b < l.Data || b >= l.Blocks || blocks[b] {
						t.Fatalf("TakeBlock gives %d: %v", b, blocks[b])
					}
					blocks[b] = true
				}
			case 3, 4, 5:
				if len(nodes) < l.Nodes {
					k, e := p.TakeNode()
					is(t, "TakeNode", e, api.OK)
					if k < 1 || k > l.Nodes || nodes[k] {
						t.Fatalf("TakeNode gives %d: %v", k, nodes[k])
					}
					nodes[k] = true
				}
			case 6:
				b := l.Data + d.Below(min(l.Blocks-l.Data, len(blocks)+2))
				want := api.ErrFree
				if blocks[b] {
					want = api.OK
				}
				is(t, "DropBlock", p.DropBlock(b), want)
				delete(blocks, b)
			case 7:
				k := 1 + d.Below(min(l.Nodes, len(nodes)+2))
				want := api.ErrFree
				if nodes[k] {
					want = api.OK
				}
				is(t, "DropNode", p.DropNode(k), want)
				delete(nodes, k)
			}
			left(t, p, l.Blocks-l.Data-len(blocks), l.Nodes-len(nodes), api.OK)
			if d.Below(20) == 0 {
				is(t, "Commit", p.Commit(), api.OK)
				p = begun(t, s)
				left(t, p, l.Blocks-l.Data-len(blocks), l.Nodes-len(nodes), api.OK)
			}
		}
	}
}

// Left changes by nothing else: not by errors, not by other blocks' contents.
func TestP603NothingElse(t *testing.T) {
	_, s, p := fresh(t, small)
	gives(t, "TakeBlock", 3, api.OK)(p.TakeBlock())
	gives(t, "TakeNode", 1, api.OK)(p.TakeNode())
	for range 3 {
		is(t, "DropBlock", p.DropBlock(2), api.ErrRange)
		is(t, "DropBlock", p.DropBlock(43), api.ErrRange)
		is(t, "DropBlock", p.DropBlock(4), api.ErrFree)
		is(t, "DropNode", p.DropNode(0), api.ErrRange)
		is(t, "DropNode", p.DropNode(2), api.ErrFree)
		left(t, p, 39, 3, api.OK)
	}
	trial.PutMany(t, p.Tx, 2, 10)
	left(t, p, 39, 3, api.OK)
	is(t, "Sync", s.Sync(), api.OK)
	is(t, "Checkpoint", s.Checkpoint(), api.OK)
	left(t, p, 39, 3, api.OK)
	is(t, "Commit", p.Commit(), api.OK)
	left(t, begun(t, s), 39, 3, api.OK)
}

// What an Abort lets go was never taken, and never dropped.
func TestP604Abort(t *testing.T) {
	_, s, p := fresh(t, small)
	for range 6 {
		p.TakeBlock()
	}
	for range 2 {
		p.TakeNode()
	}
	is(t, "Commit", p.Commit(), api.OK)
	for _, spoil := range []bool{false, true} {
		p = begun(t, s)
		gives(t, "TakeBlock", 9, api.OK)(p.TakeBlock())
		gives(t, "TakeNode", 3, api.OK)(p.TakeNode())
		is(t, "DropBlock", p.DropBlock(4), api.OK)
		is(t, "DropNode", p.DropNode(1), api.OK)
		if spoil {
			for range 3 {
				p.TakeNode()
			}
			is(t, "State", p.State(), api.ErrNoNodes)
		}
		is(t, "Abort", p.Abort(), api.OK)
		p = begun(t, s)
		laid(t, p, 0, 255, 1)
		laid(t, p, 1, 3)
		left(t, p, 34, 2, api.OK)
		is(t, "Abort", p.Abort(), api.OK)
	}
}
