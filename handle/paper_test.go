package handle_test

import (
	"testing"

	"vellum/api"
	"vellum/site"
	"vellum/trial"
)

// paper is a file as one text of bytes: it lives while it has a name or somebody has it open.
type paper struct {
	text  []byte
	links int
	grips int
	node  int // 0 as long as nobody has asked
}

// grip is a handle of a paper.
type grip struct {
	on          *paper
	mode, place int
}

// office is two desks over a file system, and in plain memory what they should tell.
type office struct {
	*trial.Dice
	t     *testing.T
	sides [2]*bench
	names map[string]*paper
	grips [2]map[int]*grip
	live  []*paper
}

func newOffice(t *testing.T, seed int) *office {
	o := &office{Dice: trial.NewDice(seed), t: t, names: map[string]*paper{}}
	o.sides[0] = onDisk(t, site.Made(t, api.Super{Sectors: 2048, Log: 60, Nodes: 64}))
	o.again()
	return o
}

// again lays new desks over what is mounted.
func (o *office) again() {
	o.sides[1] = o.sides[0].beside()
	o.grips = [2]map[int]*grip{{}, {}}
}

// lost lets go what nobody can reach any more.
func (o *office) lost() {
	var live []*paper
	for _, p := range o.live {
		if p.links > 0 || p.grips > 0 {
			live = append(live, p)
		}
	}
	o.live = live
}

func (o *office) born(path string) *paper {
	p := &paper{links: 1}
	o.names[path] = p
	o.live = append(o.live, p)
	return p
}

// write lays bytes into a text, with zeros ahead of them where it is too short.
func (p *paper) write(off int, data []byte) {
	if len(data) == 0 {
		return
	}
	if end := off + len(data); len(p.text) < end {
		p.text = append(p.text, make([]byte, end-len(p.text))...)
	}
	copy(p.text[off:], data)
}

func (p *paper) resize(size int) {
	p.text = append([]byte{}, p.text[:min(size, len(p.text))]...)
	p.text = append(p.text, make([]byte, size-len(p.text))...)
}

func (o *office) path() string { return trial.One(o.Dice, "/a", "/b", "/c", "/d", "/e") }

func (o *office) open(side int) {
	o.t.Helper()
	b, path, mode := o.sides[side], o.path(), trial.One(o.Dice, rightModes()...)
	p := o.names[path]
	want := 1
	for o.grips[side][want] != nil {
		want++
	}
	switch {
	case want > 16:
		b.opens(path, mode, 0, api.ErrMany)
		return
	case p != nil && mode&mFresh != 0:
		b.opens(path, mode, 0, api.ErrExists)
		return
	case p == nil && mode&mCreate == 0:
		b.opens(path, mode, 0, api.ErrNotFound)
		return
	case p == nil:
		p = o.born(path)
	}
	b.opens(path, mode, want, api.OK)
	if mode&mEmpty != 0 {
		p.text = nil
	}
	p.grips++
	o.grips[side][want] = &grip{p, mode, 0}
}

func (o *office) read(b *bench, h int, g *grip) {
	o.t.Helper()
	n := trial.One(o.Dice, 0, 1, o.Below(100), o.Below(9000), 65536)
	if g.mode&mRead == 0 {
		b.reads(h, n, "", api.ErrMode)
		return
	}
	from := min(g.place, len(g.on.text))
	to := min(from+n, len(g.on.text))
	b.reads(h, n, string(g.on.text[from:to]), api.OK)
	g.place += to - from
}

func (o *office) write(b *bench, h int, g *grip) {
	o.t.Helper()
	data := o.Bytes(trial.One(o.Dice, 0, 1, o.Below(100), o.Below(5000)))
	if g.mode&mWrite == 0 {
		b.writes(h, string(data), 0, api.ErrMode)
		return
	}
	off := g.place
	if g.mode&mAppend != 0 {
		off = len(g.on.text)
	}
	if off+len(data) > 12000 { // else the disk might be too small
		return
	}
	b.writes(h, string(data), len(data), api.OK)
	g.on.write(off, data)
	g.place = off + len(data)
}

func (o *office) seek(b *bench, h int, g *grip) {
	o.t.Helper()
	whence := o.Below(3)
	base := [3]int{0, g.place, len(g.on.text)}[whence]
	off := o.Below(12000) - base
	if o.Below(3) == 0 {
		off = o.Below(200) - 100
	}
	if base+off < 0 {
		b.seeks(h, off, whence, 0, api.ErrArg)
		return
	}
	b.seeks(h, off, whence, base+off, api.OK)
	g.place = base + off
}

// stat asks besides that a file keeps its number, and that no other has it.
func (o *office) stat(b *bench, h int, p *paper) {
	o.t.Helper()
	s, e := b.k.Stat(h)
	if e != api.OK || s.Kind != api.KFile || s.Links != p.links || s.Size != len(p.text) || p.node != 0 && s.Node != p.node {
		o.t.Fatalf("P1406: Stat(%d): %+v, %v, want %d links, the size %d, node %d", h, s, e, p.links, len(p.text), p.node)
	}
	p.node = s.Node
	for _, q := range o.live {
		if q != p && q.node == p.node {
			o.t.Fatalf("P1408: two files have the number %d", p.node)
		}
	}
}

func (o *office) close(side, h int, g *grip) {
	o.t.Helper()
	o.sides[side].closes(h, api.OK)
	delete(o.grips[side], h)
	g.on.grips--
	o.lost()
}

// atHandle does something at a handle, open or not.
func (o *office) atHandle(side int) {
	o.t.Helper()
	b, h := o.sides[side], 1+o.Below(16)
	g := o.grips[side][h]
	if g == nil {
		for _, a := range answersOf(b.k, h) {
			trial.Is(o.t, a.what, a.e, api.ErrHandle)
		}
		return
	}
	switch o.Below(10) {
	case 0, 1, 2:
		o.read(b, h, g)
	case 3, 4, 5:
		o.write(b, h, g)
	case 6, 7:
		o.seek(b, h, g)
	case 8:
		o.stat(b, h, g.on)
	default:
		o.close(side, h, g)
	}
}

// beside does an operation at the file system.
func (o *office) beside() {
	o.t.Helper()
	b, path, other := o.sides[0], o.path(), o.path()
	p, q := o.names[path], o.names[other]
	if p == nil {
		trial.Is(o.t, "Unlink", b.f.Do(site.Unlink(path)).Err, api.ErrNotFound)
		return
	}
	switch o.Below(6) {
	case 0:
		b.all(site.Unlink(path))
		delete(o.names, path)
		p.links--
	case 1:
		if b.all(site.Rename(path, other)); p != q {
			delete(o.names, path)
			o.names[other] = p
			if q != nil {
				q.links--
			}
		}
	case 2:
		if q == nil {
			b.all(site.Link(path, other))
			o.names[other] = p
			p.links++
		}
	case 3:
		size := o.Below(12000)
		b.all(site.Truncate(path, size))
		p.resize(size)
	case 4:
		data := o.Bytes(o.Below(700))
		b.all(site.Write(path, 100, string(data)))
		p.write(100, data)
	default:
		b.holds(path, string(p.text))
	}
	o.lost()
}

// remount ends the life of the desks. All was done and is durable, so that nothing is lost but what nobody can reach.
func (o *office) remount() {
	o.t.Helper()
	b := o.sides[0]
	trial.Is(o.t, "Sync", b.f.Sync(), api.OK)
	if o.Below(2) == 0 {
		b.d.Crash(nil)
	}
	o.sides[0] = onDisk(o.t, b.d)
	for _, a := range answersOf(b.k, 1) {
		trial.Is(o.t, "P1408: of an old desk: "+a.what, a.e, api.ErrDead)
	}
	o.again()
	for _, p := range o.live {
		p.grips = 0
	}
	o.lost()
}

// Whatever is done at handles, and beside them: what is read is what was written, and what has neither a name nor a handle is gone.
func TestP1408Drawn(t *testing.T) {
	for seed := range 4 {
		t.Run("", func(t *testing.T) {
			t.Parallel()
			o := newOffice(t, 1408+seed)
			most := 0
			for range 6000 {
				switch side := o.Below(2); o.Below(40) {
				case 0, 1, 2, 3, 4, 5, 6, 7:
					o.open(side)
				case 8, 9, 10, 11, 12:
					o.beside()
				case 13:
					if o.Below(20) == 0 {
						o.remount()
					}
				default:
					o.atHandle(side)
				}
				if _, nodes, e := o.sides[0].f.Space(); nodes != 63-len(o.live) || e != api.OK {
					t.Fatalf("P1407, P1408: %d nodes are free, %v, with %d files", nodes, e, len(o.live))
				}
				most = max(most, len(o.live)-len(o.names))
			}
			if most < 5 {
				t.Errorf("the draw is thin: at most %d files without a name", most)
			}
			for path, p := range o.names {
				o.sides[0].holds(path, string(p.text))
			}
			if r, e := o.sides[0].f.Check(2); r.Phase != 0 || e != api.OK {
				t.Errorf("Check: %+v, %v", r, e)
			}
		})
	}
}
