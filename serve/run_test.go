package serve_test

import (
	"bytes"
	"math"
	"reflect"
	"runtime"
	"slices"
	"strings"
	"testing"
	"time"

	"vellum/api"
	"vellum/dump"
	"vellum/fs"
	"vellum/handle"
	"vellum/serve"
	"vellum/site"
	"vellum/trial"
)

// plays asks that a Run answers these turns for each session, with no error but those that are named, by the number of the turn.
func (r *room) plays(calls [][]api.Call, order []int, turns [][]int, errors map[int]api.Errno) [][]api.Answer {
	r.T.Helper()
	answers, e := serve.Run(r.F, calls, order)
	if e != api.OK || len(answers) != len(turns) {
		r.T.Fatalf("P2012: Run, order %v: %v, %v", order, answers, e)
	}
	for s, list := range answers {
		var got []int
		for _, a := range list {
			got = append(got, a.Turn)
			trial.Is(r.T, "P2012: a reply", a.Reply.Err, errors[a.Turn])
		}
		if !slices.Equal(got, turns[s]) {
			r.T.Fatalf("P2012: Run, order %v: the turns of session %d are %v, want %v", order, s, got, turns[s])
		}
	}
	return answers
}

// The chapter's examples of Run.
func TestP2012Examples(t *testing.T) {
	calls := [][]api.Call{{open("/a", mWrite+mAppend), write(1, "x")}, {open("/a", mWrite+mAppend), write(1, "y")}}
	r := newRoom(t, 1)
	r.plays(calls, []int{0, 1, 1, 0}, [][]int{{1, 4}, {2, 3}}, nil)
	r.text("/a", "yx")
	r = newRoom(t, 1)
	r.plays(calls, nil, [][]int{{1, 3}, {2, 4}}, nil)
	r.text("/a", "xy")
	for _, order := range [][]int{nil, {0, 5, -1}} {
		if a, e := serve.Run(r.F, nil, order); len(a) != 0 || e != api.ErrSession {
			t.Errorf("P2012: Run of no lists: %v, %v", a, e)
		}
		if a, e := serve.Run(r.F, [][]api.Call{nil}, order); len(a) != 1 || len(a[0]) != 0 || e != api.OK {
			t.Errorf("P2012: Run of an empty list: %v, %v", a, e)
		}
	}
}

func TestP2012Refused(t *testing.T) {
	r := newRoom(t, 1)
	many := make([]api.Call, 257)
	for i := range many {
		many[i] = doing(site.Unlink("/a"))
	}
	r.Unchanged("P2012: a Run that is refused", func() {
		for _, p := range []struct {
			calls [][]api.Call
			want  api.Errno
		}{
			{[][]api.Call{}, api.ErrSession}, {make([][]api.Call, 9), api.ErrSession}, {[][]api.Call{many, nil, nil, nil, nil, nil, nil, nil, nil}, api.ErrSession},
			{[][]api.Call{many}, api.ErrMany}, {[][]api.Call{{doing(site.Unlink("/a"))}, nil, many}, api.ErrMany}, {[][]api.Call{many, {syncs()}}, api.ErrMany},
		} {
			if a, e := serve.Run(r.F, p.calls, []int{0, 1, 2}); len(a) != 0 || e != p.want {
				t.Errorf("P2012: Run of %d lists: %v, %v, want %v", len(p.calls), a, e, p.want)
			}
		}
	})
	calls := make([][]api.Call, 8)
	for i := range calls {
		calls[i] = many[:256]
	}
	a, e := serve.Run(r.F, calls, nil)
	if e != api.OK || len(a) != 8 {
		t.Fatalf("P2012: Run of as many as may be: %v", e)
	}
	for s, list := range a {
		for i, x := range list {
			want := api.ErrNotFound
			if s == 0 && i == 0 {
				want = api.OK
			}
			if x.Turn != 8*i+s+1 || x.Reply.Err != want {
				t.Fatalf("P2012: session %d, call %d: %+v", s, i, x)
			}
		}
	}
}

// Which numbers of an order mean which session.
func TestP2012Order(t *testing.T) {
	three := func() [][]api.Call { return [][]api.Call{{syncs(), syncs()}, {syncs(), syncs()}, {syncs(), syncs()}} }
	for _, p := range []struct {
		order []int
		turns [][]int
	}{
		{nil, [][]int{{1, 4}, {2, 5}, {3, 6}}},
		{[]int{2, 2, 1}, [][]int{{4, 6}, {3, 5}, {1, 2}}},
		{[]int{3, 4, 5, 8, 7, 6}, [][]int{{1, 6}, {2, 5}, {3, 4}}},
		{[]int{-1, -2, math.MinInt}, [][]int{{1, 2}, {3, 5}, {4, 6}}}, // the third finds no call
		{[]int{math.MaxInt, math.MaxInt - 1}, [][]int{{2, 3}, {1, 4}, {5, 6}}},
		{[]int{1, 1, 1, 1, 1, 1, 1, 1}, [][]int{{3, 5}, {1, 2}, {4, 6}}},
		{[]int{0, 1, 2, 0, 1, 2, 0, 1, 2}, [][]int{{1, 4}, {2, 5}, {3, 6}}},
	} {
		newRoom(t, 1).plays(three(), p.order, p.turns, nil)
	}
	uneven := [][]api.Call{nil, {syncs(), syncs(), syncs()}, nil, {syncs()}}
	newRoom(t, 1).plays(uneven, []int{0, 2, 2, 5}, [][]int{nil, {1, 2, 4}, nil, {3}}, nil)
}

// A turn of one who waits is used up; it waits till it can go on.
func TestP2012Waits(t *testing.T) {
	calls := [][]api.Call{
		{open("/a", both), lock(1, 0, 0, alone), write(1, "first"), unlock(1, 0, 0)},
		{open("/a", both), lock(1, 0, 0, alone), write(1, "second")},
	}
	r := newRoom(t, 1)
	r.plays(calls, []int{0, 0, 1, 1, 1, 1, 0}, [][]int{{1, 2, 4, 5}, {3, 6, 7}}, nil)
	r.text("/a", "second")
	if held := r.Held(); len(held) > 0 {
		t.Errorf("P2012: behind a Run the nodes %v are held", held)
	}
}

// A session leaves with its last answer: its locks are given up, its handles closed, ahead of the next turn.
func TestP2012Leave(t *testing.T) {
	first := []api.Call{open("/a", both), lock(1, 0, 0, alone)}
	second := []api.Call{open("/a", both), try(1, 0, 0, alone)}
	newRoom(t, 1).plays([][]api.Call{first, second}, []int{0, 0, 1, 1}, [][]int{{1, 2}, {3, 4}}, nil)
	newRoom(t, 1).plays([][]api.Call{append(first, syncs()), second}, []int{0, 0, 1, 1}, [][]int{{1, 2, 5}, {3, 4}}, map[int]api.Errno{4: api.ErrBusy})
	drop := []api.Call{open("/a", both), doing(site.Unlink("/a"))}
	look := []api.Call{doing(site.Create("/new")), doing(site.Stat("/new"))}
	for node, calls := range map[int][][]api.Call{2: {drop, look}, 4: {append(drop, syncs()), look}} {
		r := newRoom(t, 1)
		a, e := serve.Run(r.F, calls, []int{0, 0, 1, 1})
		if e != api.OK || a[1][1].Reply.Stat.Node != node {
			t.Errorf("P2012: the file has the number %v, %v, want %d", a, e, node)
		}
		if held := r.Held(); len(held) > 0 {
			t.Errorf("P2012: behind a Run the nodes %v are held", held)
		}
	}
}

// Rings of any number come apart: one is told, the others have their locks in the end.
func TestP2013Ring(t *testing.T) {
	for n := 2; n <= 8; n++ {
		r := newRoom(t, 1)
		var calls [][]api.Call
		for s := range n {
			r.All(site.Create("/f" + string(rune('0'+s))))
			next := (s + 1) % n
			calls = append(calls, []api.Call{open("/f"+string(rune('0'+s)), both), open("/f"+string(rune('0'+next)), both), lock(1, 0, 0, alone), lock(2, 0, 0, alone)})
		}
		answers, e := serve.Run(r.F, calls, nil)
		if e != api.OK {
			t.Fatalf("P2013: %v", e)
		}
		for s, list := range answers {
			want := api.OK
			if s == n-1 {
				want = api.ErrDeadlock
			}
			trial.Is(t, "P2013: the last lock of a session", list[3].Reply.Err, want)
		}
	}
}

// lists draws the calls of so many sessions.
func (d *drawer) lists(sessions int) [][]api.Call {
	calls := make([][]api.Call, sessions)
	for s := range calls {
		if d.Below(12) == 0 {
			continue
		}
		for range d.Below(4) {
			calls[s] = append(calls[s], open(trial.One(d.Dice, "/a", "/b", "/c"), both+mCreate))
		}
		for range d.Below(25) {
			calls[s] = append(calls[s], d.call([]int{1, 1, 1, 2, 2, 3}))
		}
	}
	return calls
}

// order draws who has turns.
func (d *drawer) order() []int {
	order := make([]int, d.Below(2)*d.Below(120))
	for i := range order {
		order[i] = d.Below(40) - 3
		if i > 0 && d.Below(3) == 0 {
			order[i] = order[i-1]
		}
	}
	return order
}

func sameAnswers(a, b [][]api.Answer) bool {
	return slices.EqualFunc(a, b, func(x, y []api.Answer) bool {
		return slices.EqualFunc(x, y, func(p, q api.Answer) bool { return p.Turn == q.Turn && alike(p.Reply, q.Reply) })
	})
}

// serial does the calls of a Run once more, one at a time in the order of their turns' numbers, each session's at a desk of its own; it asks for the same replies.
func serial(t *testing.T, f *fs.FS, calls [][]api.Call, answers [][]api.Answer) {
	t.Helper()
	type at struct{ session, call int }
	turns := map[int]at{}
	var desks []*handle.Desk
	for s, list := range answers {
		desks = append(desks, handle.New(f))
		if len(list) != len(calls[s]) {
			t.Fatalf("P2014: %d answers of %d calls", len(list), len(calls[s]))
		}
		for i, a := range list {
			if i > 0 && list[i-1].Turn >= a.Turn {
				t.Fatalf("P2016: the turns %d and %d in one session", list[i-1].Turn, a.Turn)
			}
			turns[a.Turn] = at{s, i}
		}
	}
	for n := 1; n <= len(turns); n++ {
		x, is := turns[n]
		if !is {
			t.Fatalf("P2016: no call has turn %d of %d", n, len(turns))
		}
		got := answers[x.session][x.call].Reply
		if want, plain := atDesk(f, desks[x.session], calls[x.session][x.call]); plain && !alike(got, want) {
			t.Fatalf("P2014: turn %d: %.200q, want %.200q", n, []any{got}, []any{want})
		}
		if x.call == len(calls[x.session])-1 {
			for h := range 17 {
				desks[x.session].Close(h)
			}
		}
	}
}

// atDesk does a call that is none of locks.
func atDesk(f *fs.FS, k *handle.Desk, c api.Call) (r api.Reply, plain bool) {
	switch c.Kind {
	case 1:
		c.Op.Node = 0
		return f.Do(c.Op), true
	case 2:
		r.N, r.Err = k.Open(c.Path, c.Mode)
	case 3:
		r.Data, r.Err = k.Read(c.Handle, c.N)
		r.N = len(r.Data)
	case 4:
		r.N, r.Err = k.Write(c.Handle, c.Data)
	case 5:
		r.N, r.Err = k.Seek(c.Handle, c.Off, c.N)
	case 6:
		r.Stat, r.Err = k.Stat(c.Handle)
	case 7:
		r.Err = k.Close(c.Handle)
	case 8, 9, 10:
		return r, false
	case 11:
		r.Err = f.Sync()
	default:
		r.Err = api.ErrOp
	}
	return r, true
}

// sameTree asks that two file systems hold the same, with the same room.
func sameTree(t *testing.T, f, g *fs.FS) {
	t.Helper()
	a, e := dump.Save(f)
	b, e2 := dump.Save(g)
	if e != api.OK || e2 != api.OK || !bytes.Equal(a, b) {
		t.Fatalf("P2014: the trees are unlike, %v, %v", e, e2)
	}
	m, n, _ := f.Space()
	if m2, n2, _ := g.Space(); m != m2 || n != n2 {
		t.Fatalf("P2014: the room is %d, %d, want %d, %d", m, n, m2, n2)
	}
}

// copied is a call with memory of its own.
func copied(calls [][]api.Call) [][]api.Call {
	var all [][]api.Call
	for _, list := range calls {
		list = slices.Clone(list)
		for i := range list {
			list[i].Data, list[i].Op.Data = slices.Clone(list[i].Data), slices.Clone(list[i].Op.Data)
		}
		all = append(all, list)
	}
	return all
}

// Every Run answers what the words say, and writes the disk as they do; it ends, and the same calls one at a time come to the same.
func TestRunsDrawn(t *testing.T) {
	t.Parallel()
	told := 0
	for seed, m := range manners() {
		d := &drawer{trial.NewDice(2200 + seed), m}
		w := newTwins(t, forms()[seed%3], 1)
		for n := range 120 {
			w.sessions = 1 + d.Below(8)
			w.enter()
			for _, f := range w.fs {
				trial.Is(t, "Sync", f.Sync(), api.OK)
			}
			third := site.OnDisk(t, site.Loaded(t, w.disks[0].Image()))
			calls, order := d.lists(w.sessions), d.order()
			given, list := copied(calls), slices.Clone(order)
			got, e := serve.Run(w.fs[0], given, list)
			want, idle, _ := w.w.run(calls, order)
			if e != api.OK || idle > 0 || !sameAnswers(got, want) {
				t.Fatalf("P2012, P2013: %d.%d: %v, %d rounds without an answer\n%.2000v, want\n%.2000v", seed, n, e, idle, got, want)
			}
			if !reflect.DeepEqual(given, copied(calls)) || !slices.Equal(list, order) {
				t.Fatal("P2: Run has changed what it was given")
			}
			w.written()
			w.images()
			serial(t, third.F, calls, got)
			sameTree(t, w.fs[0], third.F)
			if held := (&site.Ground{T: t, D: w.disks[0], F: w.fs[0]}).Held(); len(held) > 0 {
				t.Fatalf("P2012: behind a Run the nodes %v are held", held)
			}
			for _, list := range got {
				for _, a := range list {
					if a.Reply.Err == api.ErrDeadlock {
						told++
					}
				}
			}
		}
	}
	if told < 20 {
		t.Errorf("the draw is thin: %d deadlocks", told)
	}
}

// A Run that is cut off answers ErrDead and nothing else, just where the words do; what it has written stands.
func TestRunsCut(t *testing.T) {
	t.Parallel()
	dead, whole := 0, 0
	for seed, m := range manners() {
		d := &drawer{trial.NewDice(2300 + seed), m}
		w := newTwins(t, forms()[seed%3], 1)
		for range 150 {
			w.sessions = 1 + d.Below(4)
			w.enter()
			fuse := d.Below(60)
			for _, x := range w.disks {
				x.Fuse(fuse)
			}
			calls, order := d.lists(w.sessions), d.order()
			got, e := serve.Run(w.fs[0], copied(calls), order)
			want, _, wantE := w.w.run(calls, order)
			if e != wantE || !sameAnswers(got, want) {
				t.Fatalf("P2012: with a fuse of %d: %.2000v, %v, want %.2000v, %v", fuse, got, e, want, wantE)
			}
			w.written()
			if e == api.OK {
				whole++
			} else {
				dead++
			}
			picks := []api.Pick{trial.Keep(), trial.Tear(d.Below(513)), trial.Keep()}
			for _, x := range w.disks {
				x.Crash(picks)
			}
			w.images()
			w.mount()
		}
	}
	if dead < 100 || whole < 20 {
		t.Errorf("the draw is thin: %d dead, %d whole", dead, whole)
	}
}

// At every write of a Run: it is dead where one is refused, and also where the last one is let through, if a leaving comes behind it.
func TestP2012Cut(t *testing.T) {
	g := planted(t)
	g.All(site.Write("/a", 0, "hello"))
	trial.Is(t, "Checkpoint", g.F.Checkpoint(), api.OK)
	for what, p := range map[string]struct {
		calls [][]api.Call
		last  api.Errno // where all writes are let through, and no more
	}{
		"a write last":        {[][]api.Call{{open("/a", both), write(1, strings.Repeat("x", 5000))}, {open("/new", mWrite+mCreate), write(1, "y")}}, api.ErrDead},
		"a sync last":         {[][]api.Call{{syncs()}}, api.ErrDead},
		"a leaving last":      {[][]api.Call{{open("/a", both), doing(site.Unlink("/a"))}}, api.OK},
		"a leaving, no write": {[][]api.Call{{open("/b", mRead+mWrite+mEmpty), doing(site.Write("/b", 0, "z")), stat(1)}}, api.ErrDead},
	} {
		dry := g.Copied()
		was := dry.D.Counts()
		if _, e := serve.Run(dry.F, p.calls, nil); e != api.OK {
			t.Fatalf("%s: %v", what, e)
		}
		now := dry.D.Counts()
		total := now.Writes + now.Flushes - was.Writes - was.Flushes
		for fuse := range total + 2 {
			c := g.Copied()
			c.D.Fuse(fuse)
			a, e := serve.Run(c.F, p.calls, nil)
			want := api.ErrDead
			switch {
			case fuse == total:
				want = p.last
			case fuse > total:
				want = api.OK
			}
			if e != want || (e != api.OK && len(a) > 0) {
				t.Errorf("P2012: %s: %d of %d writes: %v, %v, want %v", what, fuse, total, a, e, want)
			}
		}
	}
}

// Whatever the goroutines do, the answers and the disk are the same; and none is left.
func TestP2012Schedules(t *testing.T) {
	was := runtime.NumGoroutine()
	d := &drawer{trial.NewDice(2400), manners()[1]}
	first := planted(t)
	first.All(site.Create("/c"), site.Symlink("/l", "a"))
	first.Synced()
	for range 6 {
		calls, order := d.lists(8), d.order()
		var answers [][]api.Answer
		var image []byte
		for n := range 24 {
			old := runtime.GOMAXPROCS(1 + n%8)
			g := first.Copied()
			got, e := serve.Run(g.F, calls, order)
			runtime.GOMAXPROCS(old)
			trial.Is(t, "Run", e, api.OK)
			g.Synced()
			if n == 0 {
				answers, image = got, g.D.Image()
			}
			if !sameAnswers(got, answers) || !bytes.Equal(g.D.Image(), image) {
				t.Fatal("P2012: the answer hangs on how goroutines run")
			}
		}
	}
	g := first.Copied()
	g.D.Fuse(3)
	if _, e := serve.Run(g.F, [][]api.Call{{open("/a", both), write(1, strings.Repeat("x", 9000))}, {syncs()}, {syncs()}}, nil); e != api.ErrDead {
		t.Fatalf("P2012: %v", e)
	}
	for range 1000 { // one that has said that it is done may still be on its way out
		if runtime.NumGoroutine() <= was {
			return
		}
		time.Sleep(time.Millisecond)
	}
	t.Errorf("%d goroutines, and %d before", runtime.NumGoroutine(), was)
}

// The lists of an answer are the caller's, each by itself.
func TestP2Answers(t *testing.T) {
	r := newRoom(t, 1)
	r.All(site.Write("/a", 0, "hello"))
	calls := [][]api.Call{{open("/a", mRead), read(1, 3), doing(site.Read("/a", 0, 3))}, {open("/a", mRead), read(1, 3), doing(site.List("/"))}}
	a, e := serve.Run(r.F, calls, nil)
	trial.Is(t, "Run", e, api.OK)
	_ = append(a[0], api.Answer{Turn: 99})
	_ = append(a[0][1].Reply.Data, "XXX"...)
	copy(a[0][1].Reply.Data, "YYY")
	clear(a[1][2].Reply.Entries)
	if string(a[0][2].Reply.Data) != "hel" || string(a[1][1].Reply.Data) != "hel" || a[1][0].Turn != 2 {
		t.Errorf("P2: %+v", a)
	}
	r.text("/a", "hello")
}
