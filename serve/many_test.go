package serve_test

import (
	"runtime"
	"slices"
	"strconv"
	"sync"
	"testing"

	"vellum/api"
	"vellum/serve"
	"vellum/site"
)

// worker is a session that is used by a goroutine of its own.
type worker struct {
	t       *testing.T
	h       *serve.Hall
	session int
	turns   []int
	waited  int
}

// does asks a call, and gives it turns till it is answered.
func (w *worker) does(c api.Call) api.Reply {
	if e := w.h.Ask(w.session, c); e != api.OK {
		w.t.Errorf("Ask: %v", e)
	}
	for {
		a, e := w.h.Turn(w.session)
		switch e {
		case api.OK:
			w.turns = append(w.turns, a.Turn)
			return a.Reply
		case api.ErrWaits:
			w.waited++
			runtime.Gosched()
		default:
			w.t.Errorf("Turn: %v", e)
			return api.Reply{}
		}
	}
}

// counts reads a number, and writes the one behind it: nobody else may do so in between.
func (w *worker) counts(rounds int) {
	w.does(open("/a", both))
	for range rounds {
		w.does(lock(1, 0, 1, alone))
		w.does(seek(1, 0, 0))
		n, _ := strconv.Atoi(string(w.does(read(1, 9)).Data))
		w.does(seek(1, 0, 0))
		w.does(write(1, strconv.Itoa(n+1)))
		w.does(unlock(1, 0, 1))
	}
}

// Many may use one hall at the same time: each call is done whole, and who holds a lock alone is alone.
func TestP2014Many(t *testing.T) {
	t.Parallel()
	const sessions, rounds = 8, 60
	g := site.Fresh(t, api.Super{Sectors: 120, Log: 20, Nodes: 24})
	g.All(site.Create("/a"), site.Create("/b"))
	h, e := serve.New(g.F, sessions)
	if e != api.OK {
		t.Fatal(e)
	}
	workers := make([]*worker, sessions)
	var joined sync.WaitGroup
	for s := range workers {
		workers[s] = &worker{t: t, h: h, session: s}
		joined.Go(func() { workers[s].counts(rounds) })
	}
	done := make(chan struct{})
	looked := make(chan struct{})
	go func() {
		defer close(looked)
		for {
			select {
			case <-done:
				return
			default:
				if locks := h.Locks(); len(locks) > 1 {
					t.Errorf("P2015: %v", locks)
				}
				runtime.Gosched()
			}
		}
	}()
	joined.Wait()
	close(done)
	<-looked
	over := &room{g, h}
	over.text("/a", strconv.Itoa(sessions*rounds))
	var turns []int
	waited := 0
	for _, w := range workers {
		if !slices.IsSorted(w.turns) {
			t.Errorf("P2016: the turns of session %d do not rise", w.session)
		}
		turns = append(turns, w.turns...)
		waited += w.waited
	}
	slices.Sort(turns)
	for i, n := range turns {
		if n != i+1 {
			t.Fatalf("P2016: turn %d comes as number %d", n, i+1)
		}
	}
	if len(turns) != sessions*(1+6*rounds) {
		t.Errorf("P2016: %d turns", len(turns))
	}
}

// Leave, Ask and Turn of some beside those of others.
func TestP2014Leaving(t *testing.T) {
	t.Parallel()
	g := site.Fresh(t, api.Super{Sectors: 120, Log: 20, Nodes: 24})
	g.All(site.Create("/a"), site.Create("/b"))
	h, e := serve.New(g.F, 4)
	if e != api.OK {
		t.Fatal(e)
	}
	var joined sync.WaitGroup
	for s := range 4 {
		joined.Go(func() {
			w := &worker{t: t, h: h, session: s}
			for range 60 {
				w.does(open("/a", both))
				w.does(lock(1, 0, 0, alone))
				w.does(write(1, "x"))
				if e := h.Leave(s); e != api.OK {
					t.Errorf("P2011: Leave: %v", e)
				}
			}
		})
	}
	joined.Wait()
	r := &room{g, h}
	r.locked()
	r.text("/a", "x")
	if held := r.Held(); len(held) > 0 {
		t.Errorf("P2011: the nodes %v are held", held)
	}
}
