package file_test

import (
	"testing"

	"vellum/api"
	"vellum/file"
	"vellum/trial"
)

// drawer plays drawn calls over drawn junk.
type drawer struct {
	*trial.Junk[*file.Files]
	t *testing.T
}

func (j *drawer) place() int {
	d := j.Dice
	return trial.One(d, d.Below(1500), d.Below(6000), d.Below(75000), d.Below(api.MaxFile), 512*d.Below(16522), api.MaxFile-1-d.Below(600))
}

// call plays one drawn call, and asks for what is answered beside its error.
func (j *drawer) call() api.Errno {
	j.t.Helper()
	d := j.Dice
	number, off := 1+d.Below(4), j.place()
	switch d.Below(4) {
	case 0:
		n := trial.One(d, 1, d.Below(3000), 65536)
		data, e := j.View.ReadAt(number, off, n)
		if len(data) > n || e != api.OK && len(data) > 0 {
			j.t.Fatalf("P9: ReadAt: %d bytes, %v", len(data), e)
		}
		return e
	case 1:
		return j.View.WriteAt(number, off, d.Bytes(1+d.Below(min(4096-off%4096, api.MaxFile-off))))
	case 2:
		return j.View.Resize(number, off)
	default:
		return j.View.Wipe(number, off, trial.One(d, 1, d.Below(3000), api.MaxFile))
	}
}

// Over junk every call ends; what is refused changes nothing, or spoils the transaction.
func TestP9Drawn(t *testing.T) {
	t.Parallel()
	d, s, f := fresh(t, api.Super{Sectors: 64, Log: 18, Nodes: 8}, 3)
	is(t, "Abort", f.Abort(), api.OK)
	j := &drawer{t: t}
	j.Junk = &trial.Junk[*file.Files]{
		T:    t,
		Dice: newDice(909),
		Disk: d,
		On:   on,
		Call: j.call,
		Dead: func(f *file.Files, want api.Errno) { reads(t, f, 1, 0, 1, "", want) },
	}
	answers := j.Play(s, 6000)
	for _, e := range []api.Errno{api.OK, api.ErrNode, api.ErrCorrupt, api.ErrNoSpace} {
		if answers[e] < 100 {
			t.Errorf("the draw is thin: %v was answered %d times", e, answers[e])
		}
	}
}

// A pointer that names no data block is told by every call on whose way it lies, with nothing beside it.
func TestP9Pointer(t *testing.T) {
	for _, pointer := range []int{1, 2, 43, 2047} {
		for what, call := range map[string]func(f *file.Files) api.Errno{
			"ReadAt":  reading(1, 300, 700),
			"WriteAt": writing(1, 300, step[:700]),
			"Resize":  resizing(1, 600),
			"Wipe":    wiping(1, 300, 700),
			"a hole":  wiping(1, 300, 1100),
		} {
			_, s, f := fresh(t, small, 2)
			writes(t, f, 1, 0, step[:1500], api.OK)
			n := load(t, f, 1)
			n.Direct[1] = pointer
			is(t, "Save", f.Save(1, n), api.OK)
			f = next(t, s, f)
			was := blocks(t, f)
			reads(t, f, 1, 0, 512, step[:512], api.OK)
			reads(t, f, 1, 500, 100, "", api.ErrCorrupt)
			f = undone(t, s, f)
			is(t, what, call(f), api.ErrCorrupt)
			asks(t, f, api.ErrCorrupt)
			f = undone(t, s, f)
			if list := unlike(was, blocks(t, f)); list != nil {
				t.Fatalf("P7: %s: behind the Abort %v are unlike", what, list)
			}
			writes(t, f, 2, 0, "ab", api.OK) // another node
		}
	}
}
