package check_test

import (
	"slices"
	"strconv"
	"testing"

	"vellum/api"
	"vellum/codec"
	"vellum/fan"
	"vellum/trial"
)

// built is a drawn plate without a fault, and what is to be told of it.
func built(t *testing.T, dice *trial.Dice, form api.Super) (*plate, api.Report) {
	t.Helper()
	p, report := trial.Built(t, dice, form)
	return &plate{p, t}, report
}

// vandal does drawn things to a plate.
type vandal struct {
	*plate
	dice *trial.Dice
}

// some draws a node of one of these kinds; the root, if there is none.
func (v *vandal) some(kinds ...int) int {
	list := []int{1}
	for k := 1; k <= v.Nodes; k++ {
		if n, e := codec.DecodeNode(v.Slot(k)); e == api.OK && slices.Contains(kinds, n.Kind) {
			list = append(list, k)
		}
	}
	return list[len(list)-1-v.dice.Below(max(1, len(list)-1))]
}

// edit changes a node, if its slot is whole, and its fields fit then.
func (v *vandal) edit(k int, how func(n *api.Node)) {
	n, e := codec.DecodeNode(v.Slot(k))
	if e != api.OK {
		return
	}
	how(&n)
	if record, e := codec.EncodeNode(n); e == api.OK {
		copy(v.Slot(k), record)
	}
}

// anyPointer draws one: of a block that is free, or owned, or none.
func (v *vandal) anyPointer() int {
	block := v.Data + v.dice.Below(v.Blocks-v.Data)
	owned := v.Data
	for b := range v.look().owner {
		owned = max(owned, b) // the same one in every run
	}
	return trial.One(v.dice, 0, block, block, owned, owned, v.dirBlock(), v.indirect(), v.Data-1, v.Blocks-1, v.Blocks, 1, 2047)
}

// look is what the model has met, up to the pointers.
func (v *vandal) look() *plain {
	m := &plain{plate: v.plate, nodes: map[int]api.Node{}, owner: map[int]int{}, count: map[int]int{}, data: map[[2]int]int{}}
	m.table()
	m.pointers()
	return m
}

// dirBlock draws a block of a directory, or some block.
func (v *vandal) dirBlock() int {
	var list []int
	m := v.look()
	for k := 1; k <= v.Nodes; k++ {
		for i := range 40 {
			if block, there := m.data[[2]int{k, i}]; there && m.nodes[k].Kind == api.KDir {
				list = append(list, block)
			}
		}
	}
	if len(list) == 0 {
		return v.Data
	}
	return trial.One(v.dice, list...)
}

// indirect draws an indirect block, or some block.
func (v *vandal) indirect() int {
	var list []int
	m := v.look()
	for k := 1; k <= v.Nodes; k++ {
		n := m.nodes[k]
		for _, block := range []int{n.Single, n.Double} {
			if m.owner[block] == k {
				list = append(list, block)
			}
		}
		if m.owner[n.Double] == k {
			for i := range 128 {
				if leaf := m.pointer(n.Double, i); m.owner[leaf] == k {
					list = append(list, leaf)
				}
			}
		}
	}
	if len(list) == 0 {
		return v.Data
	}
	return trial.One(v.dice, list...)
}

// breakTable does a thing that phase 1 tells, most times.
func (v *vandal) breakTable() {
	d := v.dice
	switch d.Below(6) {
	case 0:
		v.Slot(1 + d.Below(v.Nodes))[d.Below(128)] ^= 1 << d.Below(8)
	case 1:
		v.edit(v.some(api.KLink), func(n *api.Node) { n.Size = trial.One(d, 0, 256, 512) })
	case 2:
		v.edit(v.some(api.KDir), func(n *api.Node) { n.Size += trial.One(d, 1, 64, 511) })
	case 3:
		v.edit(1, func(n *api.Node) { n.Parent = 1 + d.Below(5) })
	case 4:
		v.edit(1, func(n *api.Node) { *n = trial.One(d, api.Node{}, api.Node{Kind: api.KFile}, api.Node{Kind: api.KLink}) })
	default:
		copy(v.Slot(1+d.Below(v.Nodes)), d.Bytes(128))
	}
}

// breakPointers does a thing that phase 2 tells, most times.
func (v *vandal) breakPointers() {
	d := v.dice
	k := v.some(api.KFile, api.KDir, api.KLink)
	switch d.Below(9) {
	case 0, 1:
		v.edit(k, func(n *api.Node) { n.Direct[d.Below(10)] = v.anyPointer() })
	case 2:
		v.edit(k, func(n *api.Node) { n.Single = v.anyPointer() })
	case 3:
		v.edit(k, func(n *api.Node) { n.Double = v.anyPointer() })
	case 4:
		v.Point(v.indirect(), d.Below(128), trial.One(d, v.anyPointer(), v.anyPointer(), 1<<32-1, d.Below(1<<31)))
	case 5:
		clear(v.Held[v.indirect()])
	case 6:
		v.edit(k, func(n *api.Node) { n.Owned += trial.One(d, 1, -1, 5) })
	case 7:
		v.edit(v.some(api.KFile), func(n *api.Node) {
			n.Size = trial.One(d, 0, n.Size-1, n.Size-512, d.Below(api.MaxFile), d.Below(n.Size+1))
		})
	default:
		v.Held[v.Data+d.Below(v.Blocks-v.Data)] = d.Bytes(512)
	}
}

// breakBits turns some bits.
func (v *vandal) breakBits() {
	for range 1 + v.dice.Below(3) {
		v.Turn(v.dice.Below(2), trial.One(v.dice, v.dice.Below(4096), v.dice.Below(v.Blocks), v.dice.Below(v.Nodes)))
	}
}

// breakContents does a thing that phase 4 tells, most times.
func (v *vandal) breakContents() {
	d := v.dice
	block, slot := v.dirBlock(), d.Below(8)
	switch d.Below(9) {
	case 0:
		v.Held[block][64*slot+d.Below(64)] ^= 1 << d.Below(8)
	case 1:
		copy(v.Held[block][64*slot:][:64], v.Held[v.dirBlock()][64*d.Below(8):])
		for from := range 8 {
			if record := v.Held[block][64*from:][:64]; from != slot && !zero(record) {
				copy(v.Held[block][64*slot:], record)
			}
		}
	case 2:
		v.Entry(block, slot, api.Entry{Node: 1 + d.Below(v.Nodes+2), Kind: 1 + d.Below(3), Name: trial.One(d, "a", "b", "c")})
	case 3:
		clear(v.Held[block])
	case 4:
		v.edit(v.some(api.KDir), func(n *api.Node) { n.Size += 512 * trial.One(d, 1, 2, 12) })
	case 5:
		v.edit(v.some(api.KDir), func(n *api.Node) { n.Direct[d.Below(2)] = 0 })
	case 6:
		v.edit(v.some(api.KLink), func(n *api.Node) { n.Direct[0] = 0 })
	case 7:
		v.edit(v.some(api.KLink), func(n *api.Node) { n.Size = 1 + d.Below(255) })
	default:
		v.edit(v.some(api.KFile, api.KDir, api.KLink), func(n *api.Node) { *n = api.Node{} })
	}
}

// breakTree does a thing that phase 5 tells, most times.
func (v *vandal) breakTree() {
	d := v.dice
	block, slot := v.dirBlock(), d.Below(8)
	switch d.Below(6) {
	case 0:
		v.edit(v.some(api.KFile, api.KDir, api.KLink), func(n *api.Node) { n.Links += trial.One(d, -1, 1, 2) })
	case 1:
		v.edit(v.some(api.KDir), func(n *api.Node) { n.Parent = trial.One(d, 1, v.some(api.KDir), 1+d.Below(v.Nodes)) })
	case 2:
		clear(v.Held[block][64*slot:][:64])
	default:
		kind := 1 + d.Below(3)
		if k := v.some(kind); k > 1 || kind == api.KDir {
			v.Entry(block, slot, api.Entry{Node: k, Kind: kind, Name: "v" + strconv.Itoa(d.Below(1000))})
		}
	}
}

// mend lets every node own what it owns, and, if the bits are to be right, the bitmaps say so.
func (v *vandal) mend(bits bool) {
	m := v.look()
	for k := range m.nodes {
		v.edit(k, func(n *api.Node) { n.Owned = m.count[k] })
	}
	if !bits {
		return
	}
	clear(v.Held[0])
	clear(v.Held[1])
	for b := range v.Blocks {
		if _, owned := m.owner[b]; owned || b < v.Data {
			v.Turn(0, b)
		}
	}
	for k := range m.nodes {
		v.Turn(1, k-1)
	}
}

// ravage does some things that phases from that one on tell, and mends what the ones before it would tell, as far as it can.
func (v *vandal) ravage(phase int) {
	does := []func(){v.breakTable, v.breakPointers, v.breakBits, v.breakContents, v.breakTree}
	for range 1 + v.dice.Below(4) {
		does[phase-1+v.dice.Below(6-phase)]()
	}
	if phase > 2 {
		v.mend(phase > 3)
	}
}

// The report is that of the model, on drawn images with nothing wrong and with much.
func TestP1201Drawn(t *testing.T) {
	t.Parallel()
	dice := trial.NewDice(1201)
	kinds, phases := map[int]int{}, map[int]int{}
	for round := range 6000 {
		p, want := built(t, dice, trial.One(dice, small, tiny, wide, wide))
		if round%5 > 0 {
			v := &vandal{p, dice}
			v.ravage(1 + dice.Below(5))
			want = plainly(p)
		} else if got := plainly(p); !same(got, want) {
			t.Fatalf("the model tells %+v, want %+v", got, want)
		}
		d, _, tx := p.begun()
		p.asks(d, tx, 1+dice.Below(8), "drawn", want)
		phases[want.Phase]++
		for _, f := range want.Faults {
			kinds[f.Kind]++
		}
	}
	for phase := range 6 {
		if phases[phase] < 300 {
			t.Errorf("the draw is thin: phase %d came %d times", phase, phases[phase])
		}
	}
	for kind := api.FNode; kind <= api.FText; kind++ {
		if kinds[kind] < 60 {
			t.Errorf("the draw is thin: kind %d came %d times", kind, kinds[kind])
		}
	}
}

// The same over blocks of any bytes: all of them, and the data blocks alone, which pointers lead into.
func TestP1201Junk(t *testing.T) {
	t.Parallel()
	dice := trial.NewDice(1202)
	for range 300 {
		p := rooted(t, trial.One(dice, small, tiny, least))
		from := trial.One(dice, 0, p.Data, p.Data)
		for b := from; b < p.Blocks; b++ {
			switch dice.Below(3) {
			case 0:
				p.Held[b] = dice.Bytes(512)
			case 1:
				for range 1 + dice.Below(128) {
					p.Point(b, dice.Below(128), dice.Below(p.Blocks+2))
				}
			}
		}
		if from > 0 {
			for k := 1; k <= p.Nodes; k++ {
				p.Lay(k, p.junk(dice, k))
			}
		}
		d, _, tx := p.begun()
		p.asks(d, tx, 1+dice.Below(8), "junk", plainly(p))
	}
}

// junk is a node with pointers to any blocks.
func (p *plate) junk(dice *trial.Dice, k int) api.Node {
	n := api.Node{Kind: trial.One(dice, api.KFile, api.KFile, api.KDir), Links: dice.Below(65), Size: 512 * dice.Below(api.MaxIndex+1), Owned: dice.Below(100)}
	if k == 1 {
		n.Kind = api.KDir
	}
	if n.Kind == api.KDir {
		n.Parent = 1
	}
	for i := range n.Direct {
		n.Direct[i] = trial.One(dice, 0, dice.Below(p.Blocks+1))
	}
	n.Single, n.Double = dice.Below(p.Blocks+1), dice.Below(p.Blocks+1)
	return n
}

// The disk is just large enough for links, of which each has its own block: that is looked at twice, for its tail and for its text.
func TestP1201Reads(t *testing.T) {
	const count, dirBlocks = 800, 100
	p := rooted(t, api.Super{Sectors: 3 + 18 + 258 + count + dirBlocks + 1, Log: 18, Nodes: 1024})
	first := p.Data + count
	single := first + dirBlocks
	for k := 2; k < 2+count; k++ {
		block, slot := p.Data+k-2, k-2
		p.Born(k, api.Node{Kind: api.KLink, Links: 1, Size: 1, Owned: 1, Direct: [10]int{block}})
		p.Held[block][0] = 'x'
		p.Entry(first+slot/8, slot%8, api.Entry{Node: k, Kind: api.KLink, Name: strconv.Itoa(k)})
	}
	p.Change(1, func(n *api.Node) {
		n.Size, n.Owned, n.Single = 512*dirBlocks, dirBlocks+1, single
		for i := range dirBlocks {
			if i < 10 {
				n.Direct[i] = first + i
			} else {
				p.Point(single, i-10, first+i)
			}
		}
	})
	p.Taken(trial.Span(p.Data, p.Blocks)...)
	p.runs("many links", api.Report{Dirs: 1, Links: count, Used: count + dirBlocks + 1})
}

// Every block is named by very many pointers, and gone into once.
func TestP1201Thicket(t *testing.T) {
	dice := trial.NewDice(1207)
	p := rooted(t, large)
	for b := p.Data; b < p.Blocks; b++ {
		var row fan.Row
		for i := range row {
			row[i] = dice.Below(p.Blocks)
		}
		p.Held[b] = row.Bytes()
	}
	for k := 1; k <= p.Nodes; k++ {
		p.Lay(k, p.junk(dice, k))
	}
	p.runs("a thicket", plainly(p))
}
