package pool_test

import (
	"bytes"
	"testing"

	"vellum/api"
	"vellum/disk"
	"vellum/pool"
	"vellum/store"
	"vellum/trial"
)

// A plain model of the chapter's words: the blocks of a store in memory, bitmaps as lists of truths, and a transaction that counts which blocks it has put.

type model struct {
	layout api.Layout
	array  [][]byte
}

type modelTx struct {
	m     *model
	now   [][]byte
	put   map[int]bool
	state api.Errno
}

func newModel(l api.Layout) *model {
	m := &model{layout: l}
	for range l.Blocks {
		m.array = append(m.array, make([]byte, 512))
	}
	return m
}

func (m *model) begin() *modelTx {
	return &modelTx{m: m, now: append([][]byte{}, m.array...), put: map[int]bool{}}
}

func (x *modelTx) spoil(e api.Errno) api.Errno {
	x.state = e
	return e
}

func (x *modelTx) lay(b int, data []byte) api.Errno {
	switch {
	case x.state != api.OK:
		return x.state
	case bytes.Equal(x.now[b], data):
		return api.OK
	case !x.put[b] && len(x.put) == 16:
		return x.spoil(api.ErrBudget)
	}
	x.put[b] = true
	x.now[b] = bytes.Clone(data)
	return api.OK
}

// end is a Commit, or an Abort.
func (x *modelTx) end(commit bool) api.Errno {
	if x.state == api.ErrDead || x.state == api.ErrEnded || commit && x.state != api.OK {
		return x.state
	}
	if commit {
		x.m.array = x.now
	}
	x.state = api.ErrEnded
	return api.OK
}

func bitsOf(data []byte) []bool {
	var bits []bool
	for _, x := range data {
		for range 8 {
			bits = append(bits, x%2 == 1)
			x /= 2
		}
	}
	return bits
}

func bytesOf(bits []bool) []byte {
	var data []byte
	for i := 0; i < len(bits); i += 8 {
		x, worth := 0, 1
		for _, bit := range bits[i : i+8] {
			if bit {
				x += worth
			}
			worth *= 2
		}
		data = append(data, byte(x))
	}
	return data
}

// part is the stretch of a bitmap's bits that may change.
func (m *model) part(bitmap int) (from, to int) {
	if bitmap == 0 {
		return m.layout.Data, m.layout.Blocks
	}
	return 0, m.layout.Nodes
}

func (x *modelTx) clear() api.Errno {
	bits := make([]bool, 4096)
	for i := range x.m.layout.Data {
		bits[i] = true
	}
	if e := x.lay(0, bytesOf(bits)); e != api.OK {
		return e
	}
	return x.lay(1, make([]byte, 512))
}

func (x *modelTx) take(bitmap int) (int, api.Errno) {
	if x.state != api.OK {
		return 0, x.state
	}
	bits := bitsOf(x.now[bitmap])
	from, to := x.m.part(bitmap)
	for i := from; i < to; i++ {
		if bits[i] {
			continue
		}
		bits[i] = true
		if e := x.lay(bitmap, bytesOf(bits)); e != api.OK {
			return 0, e
		}
		return i + bitmap, api.OK
	}
	return 0, x.spoil([]api.Errno{api.ErrNoSpace, api.ErrNoNodes}[bitmap])
}

func (x *modelTx) drop(bitmap, number int) api.Errno {
	from, to := x.m.part(bitmap)
	switch i := number - bitmap; {
	case x.state != api.OK:
		return x.state
	case i < from || i >= to:
		return api.ErrRange
	case !bitsOf(x.now[bitmap])[i]:
		return api.ErrFree
	default:
		bits := bitsOf(x.now[bitmap])
		bits[i] = false
		return x.lay(bitmap, bytesOf(bits))
	}
}

func (x *modelTx) left() (free [2]int, e api.Errno) {
	if x.state != api.OK {
		return free, x.state
	}
	for bitmap := range 2 {
		from, to := x.m.part(bitmap)
		for _, bit := range bitsOf(x.now[bitmap])[from:to] {
			if !bit {
				free[bitmap]++
			}
		}
	}
	return free, api.OK
}

// game plays each call at a pool and at the model.
type game struct {
	t *testing.T
	d *disk.Disk
	s *store.Store
	m *model
	p [2]*pool.Pool // two pools on one transaction
	x *modelTx
}

func (g *game) begin() {
	g.t.Helper()
	tx := trial.Begun(g.t, g.s)
	g.p = [2]*pool.Pool{pool.On(tx), pool.On(tx)}
	g.x = g.m.begin()
}

// same holds the bitmaps, or in their stead the transaction's refusal, against the model's.
func (g *game) same(what string) {
	g.t.Helper()
	for b := range 2 {
		data, e := g.p[b].Get(b)
		is(g.t, what+", then Get", e, g.x.state)
		if e == api.OK && !bytes.Equal(data, g.x.now[b]) {
			g.t.Fatalf("P601: behind %s bitmap %d holds % x .., want % x ..", what, b, data[:16], g.x.now[b][:16])
		}
	}
}

// all holds every block against the model's.
func (g *game) all() {
	g.t.Helper()
	for b, want := range g.x.now {
		data, e := g.p[0].Get(b)
		is(g.t, "Get", e, api.OK)
		if !bytes.Equal(data, want) {
			g.t.Fatalf("block %d holds other bytes", b)
		}
	}
}

func (g *game) take(d *trial.Dice, p *pool.Pool) string {
	g.t.Helper()
	bitmap := d.Below(2)
	what, call := "TakeBlock", p.TakeBlock
	if bitmap == 1 {
		what, call = "TakeNode", p.TakeNode
	}
	want, wantE := g.x.take(bitmap)
	gives(g.t, what, want, wantE)(call())
	return what
}

func (g *game) drop(d *trial.Dice, p *pool.Pool) string {
	g.t.Helper()
	bitmap := d.Below(2)
	what, call := "DropBlock", p.DropBlock
	if bitmap == 1 {
		what, call = "DropNode", p.DropNode
	}
	from, to := g.m.part(bitmap)
	number := trial.One(d, from-1, from, to-1, to, to+1, from+d.Below(to-from), from+d.Below(to-from), from+d.Below(to-from), from+d.Below(min(8, to-from)), d.Below(5000)-500)
	is(g.t, what, call(number), g.x.drop(bitmap, number))
	return what
}

func (g *game) left(p *pool.Pool) string {
	g.t.Helper()
	free, e := g.x.left()
	left(g.t, p, free[0], free[1], e)
	return "Left"
}

// put lays a drawn content into some block, the bitmaps too: nearly full ones, nearly empty ones, and junk.
func (g *game) put(d *trial.Dice, p *pool.Pool) string {
	g.t.Helper()
	b := trial.One(d, 0, 1, d.Below(g.m.layout.Blocks), d.Below(g.m.layout.Blocks))
	data := trial.One(d, fill(255), fill(0), d.Bytes(512), fill(byte(d.Below(256))))
	data[d.Below(512)] ^= 1 << d.Below(8)
	data[d.Below(6)] = byte(d.Below(256))
	is(g.t, "Put", p.Put(b, data), g.x.lay(b, data))
	return "Put"
}

func (g *game) end(commit bool) string {
	g.t.Helper()
	what, call := "Abort", g.p[0].Abort
	if commit {
		what, call = "Commit", g.p[0].Commit
	}
	is(g.t, what, call(), g.x.end(commit))
	return what
}

// again opens the store anew; all that was committed is kept.
func (g *game) again(d *trial.Dice) {
	g.t.Helper()
	if d.Below(2) == 0 {
		is(g.t, "Sync", g.s.Sync(), api.OK)
		g.d.Crash(nil)
	}
	old := g.p
	g.s = opened(g.t, g.d)
	asks(g.t, old[0], api.ErrDead)
	g.begin()
	g.all()
}

// step plays one drawn call.
func (g *game) step(d *trial.Dice) string {
	g.t.Helper()
	p := g.p[d.Below(2)]
	switch d.Below(40) {
	case 0:
		is(g.t, "Clear", p.Clear(), g.x.clear())
		return "Clear"
	case 1:
		return g.end(true)
	case 2:
		return g.end(false)
	case 3, 4, 5:
		return g.put(d, p)
	case 6, 7, 8, 9:
		return g.left(p)
	case 10: // up to the budget's edge
		for len(g.x.put) < min(15, g.m.layout.Blocks) && g.x.state == api.OK {
			g.put(d, p)
		}
		return "Puts"
	}
	if d.Below(5) < 3 {
		return g.take(d, p)
	}
	return g.drop(d, p)
}

func TestP601Drawn(t *testing.T) {
	t.Parallel()
	d := newDice(601)
	refused := map[api.Errno]int{}
	for round := range 60 {
		form := forms[round%len(forms)]
		g := &game{t: t, d: formatted(t, form)}
		g.s = opened(t, g.d)
		g.m = newModel(g.s.Layout())
		g.begin()
		for range 500 {
			g.same(g.step(d))
			if e := g.x.state; e != api.OK && d.Below(4) == 0 { // else it goes on, to be refused
				refused[e]++
				if e != api.ErrEnded {
					g.end(false)
				}
				g.begin()
			}
			if d.Below(100) == 0 {
				g.again(d)
			}
		}
	}
	for _, e := range []api.Errno{api.ErrEnded, api.ErrNoSpace, api.ErrNoNodes, api.ErrBudget} {
		if refused[e] < 20 {
			t.Errorf("the draw is thin: %d transactions with %v", refused[e], e)
		}
	}
}
