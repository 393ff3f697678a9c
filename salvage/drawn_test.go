package salvage_test

import (
	"bytes"
	"strings"
	"testing"

	"vellum/api"
	"vellum/codec"
	"vellum/salvage"
	"vellum/site"
	"vellum/trial"
)

// vandal does drawn things to a plate. What it lays has right sums, most times: so it is believed.
type vandal struct {
	*trial.Plate
	*trial.Dice
}

// edit changes a node, if its slot holds one, and its fields fit then.
func (v vandal) edit(how func(n *api.Node)) {
	for range 20 {
		k := 1 + v.Below(v.Nodes)
		n, e := codec.DecodeNode(v.Slot(k))
		if e != api.OK || n.Kind == api.KNone {
			continue
		}
		how(&n)
		if record, e := codec.EncodeNode(n); e == api.OK {
			copy(v.Slot(k), record)
		}
		return
	}
}

func (v vandal) block() int { return v.Data + v.Below(v.Blocks-v.Data) }

// pointer draws one: of a block, or of none.
func (v vandal) pointer() int {
	return trial.One(v.Dice, v.block(), v.block(), v.block(), v.block(), 0, 1, v.Data-1, v.Blocks, 2047)
}

// dirBlock draws a block that begins with an entry, or some block.
func (v vandal) dirBlock() int {
	for range 60 {
		if b := v.block(); v.hasEntry(b) {
			return b
		}
	}
	return v.block()
}

func (v vandal) hasEntry(b int) bool {
	for slot := range 8 {
		if x, e := codec.DecodeEntry(v.Held[b][64*slot:][:64]); e == api.OK && x.Node > 0 {
			return true
		}
	}
	return false
}

func (v vandal) nodes() {
	switch v.Below(6) {
	case 0:
		v.Slot(1 + v.Below(v.Nodes))[v.Below(128)] ^= 1 << v.Below(8)
	case 1:
		clear(v.Slot(1 + v.Below(v.Nodes)))
	case 2:
		v.edit(func(n *api.Node) {
			n.Kind = 1 + v.Below(3)
			n.Parent = 0
			if n.Kind == api.KDir {
				n.Parent = 1 + v.Below(40)
			}
		})
	case 3:
		v.edit(func(n *api.Node) { n.Links = trial.One(v.Dice, 0, 0, 1, 64) })
	case 4:
		copy(v.Slot(1+v.Below(v.Nodes)), v.Slot(1+v.Below(v.Nodes)))
	default:
		k := 1 + v.Below(v.Nodes)
		v.Lay(k, api.Node{Kind: api.KDir, Parent: 1, Size: 512 * v.Below(4), Direct: [10]int{v.dirBlock(), v.dirBlock()}})
	}
}

func (v vandal) pointers() {
	switch v.Below(6) {
	case 0, 1:
		v.edit(func(n *api.Node) { n.Direct[v.Below(10)] = v.pointer() })
	case 2:
		v.edit(func(n *api.Node) { n.Single = v.pointer() })
	case 3:
		v.edit(func(n *api.Node) { n.Double = v.pointer() })
	case 4:
		b := v.block()
		for range 1 + v.Below(3) {
			v.Point(b, v.Below(128), trial.One(v.Dice, v.pointer(), v.pointer(), 1<<32-1, v.Below(1<<31)))
		}
	default:
		v.edit(func(n *api.Node) {
			n.Size = trial.One(v.Dice, 0, n.Size-1, n.Size-512, n.Size+1, n.Size+512, v.Below(api.MaxFile+1), v.Below(n.Size+1), v.Below(600), 256)
		})
	}
}

func (v vandal) entries() {
	b, slot := v.dirBlock(), v.Below(8)
	switch v.Below(6) {
	case 0:
		v.Held[b][64*slot+v.Below(64)] ^= 1 << v.Below(8)
	case 1:
		copy(v.Held[b][64*slot:][:64], v.Held[v.dirBlock()][64*v.Below(8):])
	case 2:
		copy(v.Held[b][64*slot:][:64], v.Held[b][64*v.Below(8):])
	case 3:
		clear(v.Held[b][64*slot:][:64])
	default:
		for k := 1 + v.Below(v.Nodes); k <= v.Nodes; k++ {
			if n, e := codec.DecodeNode(v.Slot(k)); e == api.OK && n.Kind > 0 {
				v.Entry(b, slot, api.Entry{Node: k, Kind: trial.One(v.Dice, n.Kind, n.Kind, n.Kind, 1+v.Below(3)), Name: trial.One(v.Dice, "a", "b", "lost", "lost.1", "lost.2", strings.Repeat("v", 1+v.Below(54)))})
				return
			}
		}
	}
}

func (v vandal) blocks() {
	switch v.Below(4) {
	case 0:
		copy(v.Held[v.Below(v.Blocks)], trial.Fill(byte(v.Below(256))))
	case 1:
		v.Held[v.block()] = v.Bytes(512)
	case 2:
		copy(v.Held[v.block()], v.Held[v.dirBlock()])
	default:
		clear(v.Held[v.dirBlock()])
	}
}

// ravage does some of all that.
func (v vandal) ravage() {
	for range 1 + v.Below(6) {
		trial.One(v.Dice, v.nodes, v.pointers, v.pointers, v.entries, v.entries, v.blocks)()
	}
}

// pit is a plate with directories in one another, most by long names.
func pit(t *testing.T, d *trial.Dice) *trial.Plate {
	t.Helper()
	p := trial.Zeros(t, wide)
	for k := 1; k <= 32; k++ {
		n := api.Node{Kind: api.KDir, Links: 2, Parent: 1, Size: 512, Direct: [10]int{p.Data + k}}
		if k > 22 {
			n = api.Node{Kind: api.KFile, Links: d.Below(2)}
		}
		p.Lay(k, n)
		if k == 1 {
			continue
		}
		in := min(k, 22+d.Below(2)) - 1
		if d.Below(12) == 0 {
			in = 1 + d.Below(22)
		}
		p.Entry(p.Data+in, d.Below(8), api.Entry{Node: k, Kind: n.Kind, Name: strings.Repeat(string(rune('a'+d.Below(26))), trial.One(d, 54, 54, 53, 30+d.Below(20)))})
	}
	return p
}

// scratch does something to the sectors ahead of the home blocks, or to any.
func scratch(d *trial.Dice, image []byte, home int) {
	switch d.Below(6) {
	case 0:
		fill(image, 0, byte(d.Below(256)))
	case 1:
		fill(image, 1, 0)
		fill(image, 2, 0)
	case 2:
		fill(image, 1+d.Below(2), byte(d.Below(256)))
	case 3:
		fill(image, 3+d.Below(home-3), byte(d.Below(256)))
	case 4:
		image[d.Below(512*home)] ^= 1 << d.Below(8)
	default:
		image[d.Below(len(image))] ^= 1 << d.Below(8)
	}
}

// drawnRecords are records that lay some blocks of a plate anew, and such as are none.
func drawnRecords(v vandal) [][]byte {
	var records [][]byte
	room := v.Log
	for room > 4 && v.Below(6) > 0 {
		var puts []put
		for b := range v.Held {
			if v.Below(len(v.Held)/2) == 0 && len(puts) < 3 {
				puts = append(puts, put{b, trial.One(v.Dice, v.Held[b], v.Held[v.Below(v.Blocks)], v.Bytes(512))})
			}
		}
		record := recordOf(puts...)
		if v.Below(8) == 0 {
			record = trial.One(v.Dice, record[:len(record)-1], append(record, 0), v.Bytes(1+v.Below(600)), recordOf(put{v.Blocks, v.Held[0]}))
		}
		records = append(records, record)
		room -= (len(record) + 491) / 492
	}
	return records
}

// broken is a drawn image on which much is wrong, and its geometry.
func broken(t *testing.T, d *trial.Dice) ([]byte, api.Super) {
	t.Helper()
	var p *trial.Plate
	if d.Below(4) == 0 {
		p = pit(t, d)
	} else {
		p, _ = trial.Built(t, d, trial.One(d, small, wide, wide, api.Super{Sectors: 300, Log: 40, Nodes: 100}, api.Super{Sectors: 70, Log: 18, Nodes: 40}))
	}
	v := vandal{p, d}
	if d.Below(10) > 0 {
		v.ravage()
	}
	image := imaged(p)
	if d.Below(3) == 0 {
		image = logged(t, image, p.Log, drawnRecords(v)...)
	}
	if d.Below(3) == 0 {
		scratch(d, image, p.Home)
	}
	return image, p.Form
}

// Drawn images, by their own geometry, by none, and by others.
func TestP1702Drawn(t *testing.T) {
	t.Parallel()
	d := trial.NewDice(1702)
	kinds, items := map[int]int{}, 0
	for range 2500 {
		image, form := broken(t, d)
		s := form
		switch d.Below(8) {
		case 0, 1:
			s = api.Super{}
		case 2:
			s.Log += d.Below(3)
		case 3:
			s.Nodes += 4 * d.Below(3)
		}
		list, losses := asWords(t, "drawn", image, s)
		items += len(list)
		seen := map[int]bool{}
		for _, l := range losses {
			seen[l.Kind] = true
			if salvage.Say(l) == "no loss" {
				t.Errorf("P1704: Say has no words for %+v", l)
			}
		}
		for kind := range seen {
			kinds[kind]++
		}
	}
	for kind := api.LSuper; kind < api.LMany; kind++ {
		if kinds[kind] < 40 {
			t.Errorf("the draw is thin: kind %d came in %d images", kind, kinds[kind])
		}
	}
	if items < 20000 {
		t.Errorf("the draw is thin: %d items", items)
	}
}

// Any bytes: all of them drawn, or nodes and entries with right sums wherever they may lie.
func TestP1702Junk(t *testing.T) {
	t.Parallel()
	d := trial.NewDice(17021)
	for range 150 {
		p := trial.Zeros(t, trial.One(d, least, small, wide, api.Super{Sectors: 90, Log: 18, Nodes: 60}))
		v := vandal{p, d}
		for b := p.Data; b < p.Blocks; b++ {
			switch d.Below(4) {
			case 0:
				p.Held[b] = d.Bytes(512)
			case 1:
				for range 1 + d.Below(128) {
					p.Point(b, d.Below(128), d.Below(p.Blocks+2))
				}
			case 2:
				for slot := range 8 {
					p.Entry(b, slot, api.Entry{Node: 1 + d.Below(p.Nodes), Kind: trial.One(d, 1, 2, 2, 3), Name: string(rune('a' + d.Below(26)))})
				}
			}
		}
		for k := 1; k <= p.Nodes; k++ {
			n := api.Node{Kind: trial.One(d, 1, 2, 2, 3), Links: d.Below(3), Size: trial.One(d, d.Below(256), 512*d.Below(12), d.Below(api.MaxFile+1))}
			if n.Kind == api.KDir {
				n.Parent = 1
			}
			for i := range n.Direct {
				n.Direct[i] = trial.One(d, 0, v.pointer())
			}
			n.Single, n.Double = trial.One(d, 0, v.pointer()), trial.One(d, 0, v.pointer())
			p.Lay(k, n)
		}
		asWords(t, "junk", imaged(p), trial.One(d, p.Form, api.Super{}))
		image := d.Bytes(512 * p.Form.Sectors)
		asWords(t, "any bytes", image, p.Form)
		asWords(t, "any bytes", image, api.Super{})
	}
}

// What is answered hangs on nothing but the arguments.
func TestP3(t *testing.T) {
	d := trial.NewDice(17022)
	for range 30 {
		image, form := broken(t, d)
		items, losses := asWords(t, "once", image, form)
		other, _ := broken(t, d)
		salvage.Items(other, api.Super{})
		salvage.Image(other, api.Super{}, small)
		itemsAgain, lossesAgain := asWords(t, "again", bytes.Clone(image), form)
		if !site.Same(items, itemsAgain) || len(losses) != len(lossesAgain) {
			t.Fatalf("P3: the second answer is another")
		}
	}
}
