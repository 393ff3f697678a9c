package dir_test

import (
	"testing"

	"vellum/api"
	"vellum/dir"
	"vellum/trial"
)

// drawer plays drawn calls over drawn junk.
type drawer struct {
	*trial.Junk[*dir.Dirs]
	t      *testing.T
	number int    // of a directory that was laid
	last   string // a name in it
	done   map[string]int
}

// mess lays a directory, and remembers a name in it.
func (j *drawer) mess() {
	j.t.Helper()
	j.number = 1 + j.Dice.Below(3)
	j.last = j.Dir(j.number, j.entry)
}

func (j *drawer) entry() api.Entry {
	d := j.Dice
	return api.Entry{Node: trial.One(d, 1+d.Below(8), 1024), Kind: 1 + d.Below(3), Name: j.name()}
}

func (j *drawer) name() string {
	return string(rune('a'+j.Dice.Below(20))) + trial.One(j.Dice, "", "x", "y", "z", "w")
}

// call plays one drawn call, and counts those that were let through.
func (j *drawer) call() api.Errno {
	j.t.Helper()
	what := trial.One(j.Dice, "Look", "Add", "Del", "Swap", "List")
	name := j.name()
	if what != "Add" && j.last != "" && j.Dice.Below(4) > 0 {
		name = j.last
	}
	e := j.make(what, name)
	if e == api.OK {
		j.done[what]++
	}
	return e
}

// make makes a call, and asks for what is answered beside its error.
func (j *drawer) make(what, name string) api.Errno {
	j.t.Helper()
	d, k := j.Dice, j.View
	number := trial.One(d, 1+d.Below(4), max(1, j.number))
	switch what {
	case "Look":
		entry, e := k.Look(number, name)
		if e == api.OK && entry.Name != name || e != api.OK && entry != (api.Entry{}) {
			j.t.Fatalf("P9: Look: %+v, %v", entry, e)
		}
		return e
	case "Add":
		return k.Add(number, name, 1+d.Below(8), 1+d.Below(3))
	case "Del":
		return k.Del(number, name)
	case "Swap":
		return k.Swap(number, name, 1+d.Below(8), 1+d.Below(3))
	default:
		list, e := k.List(number)
		if e != api.OK && len(list) > 0 {
			j.t.Fatalf("P9: List: %+v, %v", list, e)
		}
		return e
	}
}

// Over junk every call ends; what is refused changes nothing, or spoils the transaction.
func TestP9Drawn(t *testing.T) {
	t.Parallel()
	d, s, k := fresh(t, small, api.KDir, api.KDir, api.KDir)
	is(t, "Abort", k.Abort(), api.OK)
	j := &drawer{t: t, done: map[string]int{}}
	j.Junk = &trial.Junk[*dir.Dirs]{
		T:    t,
		Dice: newDice(1099),
		Disk: d,
		On:   on,
		Mess: j.mess,
		Call: j.call,
		Dead: func(k *dir.Dirs, want api.Errno) { looks(t, k, 1, "a", api.Entry{}, want); unlisted(t, k, 2, want) },
	}
	answers := j.Play(s, 4000)
	for _, e := range []api.Errno{api.OK, api.ErrNode, api.ErrCorrupt, api.ErrNotFound} {
		if answers[e] < 100 {
			t.Errorf("the draw is thin: %v was answered %d times", e, answers[e])
		}
	}
	for _, what := range []string{"Look", "Add", "Del", "Swap", "List"} {
		if j.done[what] < 20 {
			t.Errorf("the draw is thin: %s was let through %d times", what, j.done[what])
		}
	}
}

// A pointer that names no data block is told by every call, with nothing beside it.
func TestP9Pointer(t *testing.T) {
	for _, pointer := range []int{1, 2, 3, 43, 2047} {
		_, s, k := fresh(t, small, api.KDir, api.KDir)
		k = laid(t, s, k, 1, 20)
		n, e := k.Load(1)
		is(t, "Load", e, api.OK)
		n.Direct[1] = pointer
		is(t, "Save", k.Save(1, n), api.OK)
		corrupt(t, "a pointer", s, next(t, s, k), 1)
	}
}

// A slot of the table that is broken is told behind wrong arguments.
func TestP9BrokenNode(t *testing.T) {
	_, s, k := fresh(t, small, api.KDir, api.KDir)
	is(t, "Put", k.Put(2, fill('x')), api.OK)
	k = next(t, s, k)
	looks(t, k, 1, "/", api.Entry{}, api.ErrName)
	dels(t, k, 1, "", api.ErrName)
	saysRefused(t, k, 1, "a", 0, 1, api.ErrRange)
	saysRefused(t, k, 1, "a", 1, 0, api.ErrArg)
	is(t, "State", k.State(), api.OK)
	corrupt(t, "the table", s, k, 1)
}
