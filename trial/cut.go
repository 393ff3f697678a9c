package trial

import (
	"vellum/api"
	"vellum/disk"
	"vellum/store"
)

// Step is one transaction: what it changes, and whether it is then aborted instead of committed, and synced. The changes themselves need no write: none of their calls may be refused for want of power.
type Step[V any] struct {
	Change      func(V)
	Abort, Sync bool
}

// Cuts is a row of transactions, each seen by a view V that tells a state S, at whose calls the power is cut.
type Cuts[V any, S comparable] struct {
	T     T
	Image []byte // of the store on which the row begins
	On    func(tx *store.Tx) V
	Tell  func(V) S
	Dead  func(V) // asks that the view of a dead transaction refuses all its calls
	Steps []Step[V]
}

// Keep and Lose are what becomes of a pending sector as a whole.
func Keep() api.Pick { return api.Pick{A: 1, B: 1} }
func Lose() api.Pick { return api.Pick{} }

// Tear is new up to the cut and old from there on; Tear2 is the other way round.
func Tear(cut int) api.Pick  { return api.Pick{A: 1, B: 0, Cut: cut} }
func Tear2(cut int) api.Pick { return api.Pick{A: 0, B: 1, Cut: cut} }

// Picks are patterns of what becomes of the pending sectors.
func Picks() [][]api.Pick {
	keep, lose := Keep(), Lose()
	return [][]api.Pick{
		nil, {keep}, {Tear(1)}, {Tear2(511)}, {Tear(100)}, {Tear2(128)},
		{lose, keep}, {keep, lose}, {keep, Tear(256)}, {Tear2(20), keep},
		{keep, keep, lose}, {lose, lose, keep}, {keep, keep, Tear(300), keep}, {keep, keep, keep, keep, lose},
	}
}

// Every cuts the power at every call of the row, with all the patterns of picks; it answers how many cuts there were.
func (c *Cuts[V, S]) Every() int {
	c.T.Helper()
	for calls := 0; ; calls++ {
		whole := false
		for _, at := range Picks() {
			p := c.begin()
			p.d.Fuse(calls)
			whole = p.play(c.Steps)
			p.crash(at)
			p.crash(nil) // what was lost does not come back
		}
		if whole {
			return (calls + 1) * len(Picks())
		}
	}
}

// Within cuts the power while a transaction of the row is open, and those before it are synced.
func (c *Cuts[V, S]) Within() {
	c.T.Helper()
	for n, open := range c.Steps {
		for _, at := range Picks()[:3] {
			p := c.begin()
			if !p.play(c.Steps[:n]) {
				c.T.Fatalf("refused without a fuse")
			}
			v := c.On(Begun(c.T, p.s))
			open.Change(v)
			p.sync()
			p.crash(at)
			c.Dead(v)
		}
	}
}

// player plays a row, and knows what may be there behind a cut.
type player[V any, S comparable] struct {
	*Cuts[V, S]
	d      *disk.Disk
	s      *store.Store
	states []S // as it was opened, and behind each transaction that was committed since
	sure   int // it is one of these from there on, whatever is lost
}

func (c *Cuts[V, S]) begin() *player[V, S] {
	c.T.Helper()
	d, e := disk.Load(c.Image)
	Is(c.T, "Load", e, api.OK)
	p := &player[V, S]{Cuts: c, d: d, s: Opened(c.T, d)}
	p.states = []S{p.now()}
	return p
}

// now is what the store holds, asked in a transaction of its own.
func (p *player[V, S]) now() S {
	p.T.Helper()
	tx := Begun(p.T, p.s)
	state := p.Tell(p.On(tx))
	Is(p.T, "Abort", tx.Abort(), api.OK)
	return state
}

// crash cuts the power, asks that the state is one that may be, and goes on from there.
func (p *player[V, S]) crash(picks []api.Pick) {
	p.T.Helper()
	p.d.Crash(picks)
	p.s = Opened(p.T, p.d)
	now := p.now()
	for _, state := range p.states[p.sure:] {
		if now == state {
			p.states, p.sure = []S{now}, 0
			return
		}
	}
	p.T.Fatalf("cut with %v: %#v is none of the %d states that may be", picks, now, len(p.states)-p.sure)
}

// play says whether the disk let all the steps through.
func (p *player[V, S]) play(steps []Step[V]) bool {
	p.T.Helper()
	for _, s := range steps {
		if !p.do(s) || s.Sync && !p.sync() {
			return false
		}
	}
	return true
}

func (p *player[V, S]) do(s Step[V]) bool {
	p.T.Helper()
	tx, e := p.s.Begin()
	if e != api.OK {
		Is(p.T, "Begin", e, api.ErrDead)
		return false
	}
	v := p.On(tx)
	s.Change(v)
	if s.Abort {
		Is(p.T, "Abort", tx.Abort(), api.OK)
		if p.now() != p.states[len(p.states)-1] {
			p.T.Fatalf("behind Abort the state is not as it was")
		}
		return true
	}
	p.states = append(p.states, p.Tell(v)) // it may be there, whatever Commit answers
	if e := tx.Commit(); e != api.OK {
		Is(p.T, "Commit", e, api.ErrDead)
		p.Dead(v)
		return false
	}
	return true
}

func (p *player[V, S]) sync() bool {
	p.T.Helper()
	if e := p.s.Sync(); e != api.OK {
		Is(p.T, "Sync", e, api.ErrDead)
		return false
	}
	p.sure = len(p.states) - 1
	return true
}
