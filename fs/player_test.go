package fs_test

import (
	"slices"
	"testing"

	"vellum/api"
	"vellum/fs"
	"vellum/site"
	"vellum/trial"
)

// call is an operation, or another call of a file system.
type call struct {
	api.Op
	what int
}

const (
	doesOp = iota
	doesHold
	doesRelease
	doesSync
	doesCheckpoint
	doesMount
)

func ops(list ...api.Op) []call {
	var calls []call
	for _, op := range list {
		calls = append(calls, call{Op: op})
	}
	return calls
}

// player plays calls with fuses and cuts, and knows what the tree may be behind a cut.
type player struct {
	*pair
	states []*model // as it was mounted, and behind each step since
	sure   int      // the tree is one of these from there on, whatever is lost
	last   api.Reply
}

func newPlayer(p *pair) *player { return &player{pair: p, states: []*model{p.m}} }

// copied is a player on a disk of its own that holds just what is durable on the other one.
func (p *player) copied(t *testing.T) *player {
	t.Helper()
	d := site.Loaded(t, p.d.Image())
	m := p.m.clone()
	m.drop()
	return newPlayer(&pair{t, d, site.Mounted(t, d), m})
}

// alive says whether a call was let through. It is refused just if the disk is burnt.
func (p *player) alive(what any, e api.Errno, burnt bool) bool {
	p.t.Helper()
	if burnt && e != api.ErrDead || e == api.ErrDead && !p.d.Burnt() {
		p.t.Fatalf("P5: %s: %v; burnt ahead of it %v, behind it %v", says(what), e, burnt, p.d.Burnt())
	}
	return e != api.ErrDead
}

// begun takes the steps of a call to what may be there, whatever it answers.
func (p *player) begun(steps []*model) { p.states = append(p.states, steps...) }

// play does a call; it says whether the disk let it through.
func (p *player) play(c call) bool {
	p.t.Helper()
	burnt := p.d.Burnt()
	switch c.what {
	case doesOp:
		return p.operation(c.Op, burnt)
	case doesHold:
		m := p.m.clone()
		want, err := m.hold(c.Path)
		k, e := p.f.Hold(c.Path)
		if !p.alive("Hold", e, burnt) {
			return false
		}
		if k != want || e != err {
			p.t.Fatalf("P1323: Hold %q: %d, %v, want %d, %v", c.Path, k, e, want, err)
		}
		p.m = m
	case doesRelease:
		m := p.m.clone()
		err := m.release(c.Node)
		e := p.f.Release(c.Node)
		if !burnt {
			p.begun([]*model{m})
		}
		if !p.alive("Release", e, burnt) {
			return false
		}
		is(p.t, "P1323: Release", e, err)
		p.m = m
	case doesSync:
		return p.lasts("Sync", p.f.Sync(), burnt)
	case doesCheckpoint:
		return p.lasts("Checkpoint", p.f.Checkpoint(), burnt)
	default:
		f, e := fs.Mount(p.d)
		if !p.alive("Mount", e, burnt) {
			return false
		}
		is(p.t, "Mount", e, api.OK)
		p.f = f
		p.base(p.m)
	}
	return true
}

func (p *player) operation(op api.Op, burnt bool) bool {
	p.t.Helper()
	got := p.f.Do(op)
	p.last = got
	want, steps := p.m.do(op)
	if !burnt {
		p.begun(steps)
	}
	if !p.alive(op, got.Err, burnt) {
		want = api.Reply{Err: api.ErrDead}
	}
	if !same(got, want) {
		p.t.Fatalf("P1325: %s: %s, want %s", says(op), says(got), says(want))
	}
	if got.Err == api.ErrDead {
		return false
	}
	if len(steps) > 0 {
		p.m = steps[len(steps)-1]
	}
	return true
}

// lasts is the end of a call that makes all durable: from here on no less than this is there.
func (p *player) lasts(what string, e api.Errno, burnt bool) bool {
	p.t.Helper()
	if !p.alive(what, e, burnt) {
		return false
	}
	is(p.t, what, e, api.OK)
	p.states, p.sure = append(p.states, p.m), len(p.states)
	return true
}

// durable asks that the durable image, mounted anew, holds the tree as it is now.
func (p *player) durable() {
	p.t.Helper()
	p.copied(p.t).tree()
}

// base goes on from a tree that a Mount has shown.
func (p *player) base(m *model) {
	m = m.clone()
	m.drop()
	p.m, p.states, p.sure = m, []*model{m}, 0
}

// forget is for one who plays without cuts: what was before is of no account.
func (p *player) forget() { p.states, p.sure = []*model{p.m}, 0 }

// crash cuts the power, mounts anew, and asks that the tree is one that may be.
func (p *player) crash(picks []api.Pick) {
	p.t.Helper()
	p.d.Crash(picks)
	p.settle(site.Mounted(p.t, p.d))
}

// settle goes on from the tree that a Mount shows behind a cut.
func (p *player) settle(f *fs.FS) {
	p.t.Helper()
	p.f = f
	got := treeOf(p.f.Do)
	for _, m := range slices.Backward(p.states[p.sure:]) {
		was := m.clone()
		was.drop()
		if got == treeOf(was.once) {
			p.base(was)
			p.whole()
			return
		}
	}
	p.t.Fatalf("P1326: the tree is none of the %d that may be:\n%q", len(p.states)-p.sure, got)
}

// row plays calls up to the first one that is refused by the burnt disk.
func (p *player) row(calls []call) bool {
	p.t.Helper()
	for _, c := range calls {
		if !p.play(c) {
			return false
		}
	}
	return true
}

func drawnPicks(d *trial.Dice) []api.Pick {
	var picks []api.Pick
	for range d.Below(6) {
		picks = append(picks, trial.One(d, trial.Keep(), trial.Keep(), trial.Lose(), trial.Tear(d.Below(513)), trial.Tear2(d.Below(513))))
	}
	return picks
}
