package walk_test

import (
	"strings"
	"testing"

	"vellum/api"
	"vellum/trial"
	"vellum/walk"
)

// drawer plays drawn calls over drawn junk.
type drawer struct {
	*trial.Junk[*walk.Walk]
	t    *testing.T
	last string // a name that was laid into the root
	done map[string]int
}

// kinds are those of the nodes, by number.
var kinds = []int{1: api.KDir, api.KDir, api.KLink, api.KDir, api.KLink, api.KFile, api.KDir}

func (j *drawer) name() string { return string(rune('a' + j.Dice.Below(12))) }

// entry draws one that tells the right kind, most times.
func (j *drawer) entry() api.Entry {
	d := j.Dice
	number := 1 + d.Below(7)
	if d.Below(8) == 0 {
		return api.Entry{Node: trial.One(d, number, 8, 9, 1024), Kind: 1 + d.Below(3), Name: j.name()}
	}
	return api.Entry{Node: number, Kind: kinds[number], Name: j.name()}
}

// mess lays a directory, a parent or a link.
func (j *drawer) mess() {
	j.t.Helper()
	d := j.Dice
	switch d.Below(6) {
	case 0, 1:
		j.last = j.Dir(1, j.entry)
	case 2:
		j.Dir(trial.One(d, 2, 4, 7), j.entry)
	case 3:
		j.change(trial.One(d, 1, 2, 4, 7), func(n *api.Node) { n.Parent = trial.One(d, 1, 1+d.Below(9), 1024) })
	default:
		j.link()
		j.last = j.Dir(1, j.entry)
	}
}

func (j *drawer) change(number int, how func(n *api.Node)) {
	j.t.Helper()
	n, e := j.View.Load(number)
	is(j.t, "Load", e, api.OK)
	how(&n)
	is(j.t, "Save", j.View.Save(number, n), api.OK)
}

// link lays a link, with a text or with whatever lies in some block.
func (j *drawer) link() {
	j.t.Helper()
	d, block := j.Dice, j.Block()
	text := trial.One(d, "", "/") + j.name() + trial.One(d, "", "/..", "/.", "/"+j.name())
	j.change(trial.One(d, 3, 5), func(n *api.Node) {
		n.Direct[0] = trial.One(d, block, block, block, 0, 43)
		n.Size = trial.One(d, len(text), len(text), d.Below(300), d.Below(api.MaxFile))
	})
	if d.Below(4) > 0 {
		data := trial.Fill(0)
		copy(data, text)
		is(j.t, "Put", j.View.Put(block, data), api.OK)
	}
}

// path draws one that has a name of the root ahead, most times.
func (j *drawer) path() string {
	path := "/" + j.last
	for range j.Dice.Below(4) {
		path += "/" + trial.One(j.Dice, j.name(), j.name(), j.name(), "..", "")
	}
	return path
}

// call plays one drawn call, and counts those that were let through.
func (j *drawer) call() api.Errno {
	j.t.Helper()
	what := trial.One(j.Dice, "Resolve", "Resolve", "Inside", "Path")
	e := j.make(what)
	if e == api.OK {
		j.done[what]++
	}
	return e
}

// make makes a call, and asks for what is answered beside its error.
func (j *drawer) make(what string) api.Errno {
	j.t.Helper()
	d := j.Dice
	number := 1 + d.Below(8)
	switch what {
	case "Resolve":
		path := j.path()
		got, e := j.View.Resolve(path, d.Below(3) > 0)
		if e != api.OK && got != (api.Place{}) || e == api.OK && (got.Name == "") != (got.Parent == 0) {
			j.t.Fatalf("P9: Resolve(%q): %+v, %v", path, got, e)
		}
		return e
	case "Inside":
		in := 1 + d.Below(8)
		got, e := j.View.Inside(number, in)
		if got && e != api.OK || e == api.OK && number == in && !got {
			j.t.Fatalf("P9: Inside(%d, %d): %v, %v", number, in, got, e)
		}
		return e
	default:
		got, e := j.View.Path(number)
		if e != api.OK && got != "" || e == api.OK && !strings.HasPrefix(got, "/") {
			j.t.Fatalf("P1104: Path(%d): %q, %v", number, got, e)
		}
		return e
	}
}

// Over junk every call ends; what is refused changes nothing, or spoils the transaction.
func TestP9Drawn(t *testing.T) {
	t.Parallel()
	r := bare(t, small)
	for _, kind := range kinds[1:] {
		r.make(kind, []int{0, 0, 1, 0}[kind])
	}
	r.next()
	is(t, "Abort", r.Abort(), api.OK)
	j := &drawer{t: t, done: map[string]int{}}
	j.Junk = &trial.Junk[*walk.Walk]{
		T:    t,
		Dice: newDice(1199),
		Disk: r.d,
		On:   on,
		Mess: j.mess,
		Call: j.call,
		Dead: func(w *walk.Walk, want api.Errno) { asks(t, w, want) },
	}
	answers := j.Play(r.s, 6000)
	for _, e := range []api.Errno{api.OK, api.ErrNode, api.ErrNotDir, api.ErrCorrupt, api.ErrNotFound} {
		if answers[e] < 100 {
			t.Errorf("the draw is thin: %v was answered %d times", e, answers[e])
		}
	}
	for _, what := range []string{"Resolve", "Inside", "Path"} {
		if j.done[what] < 100 {
			t.Errorf("the draw is thin: %s was let through %d times", what, j.done[what])
		}
	}
	if texts := answers[api.ErrPath] + answers[api.ErrLong] + answers[api.ErrName] + answers[api.ErrLoop]; texts < 20 {
		t.Errorf("the draw is thin: %d times a link's text was what stopped the way", texts)
	}
}

// A pointer that names no data block stops the way, in a directory and in a link.
func TestP9Pointer(t *testing.T) {
	for _, pointer := range []int{1, 2, 3, 43, 2047} {
		for number, path := range map[int]string{1: "/d", 2: "/d/f", 4: "/d/l"} {
			r := sample(t)
			n, e := r.Load(number)
			is(t, "Load", e, api.OK)
			n.Direct[0] = pointer
			is(t, "Save", r.Save(number, n), api.OK)
			r.next()
			r.leads("/", true, nameless(1))
			r.spoils(path, true)
		}
	}
}
