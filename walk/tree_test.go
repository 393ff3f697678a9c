package walk_test

import (
	"strconv"
	"strings"
	"testing"

	"vellum/api"
	"vellum/trial"
)

// grown draws a tree in which each directory has one name, in its parent; files and links have one or two, anywhere.
func grown(t *testing.T, dice *trial.Dice, nodes int) *tree {
	t.Helper()
	r := planted(t, wide)
	dirs := []int{1}
	for i := range nodes {
		in, name := trial.One(dice, dirs...), trial.One(dice, "a", "b", "c", "\xff\xc3", strings.Repeat("n", 54))
		if _, e := r.Look(in, name); e == api.OK {
			name = "n" + strconv.Itoa(i)
		}
		switch dice.Below(6) {
		case 0:
			r.file(in, name)
		case 1, 2:
			number := r.link(in, name, trial.One(dice, "", "/")+strings.TrimPrefix(drawn(dice), "/"))
			r.add(trial.One(dice, dirs...), "again"+strconv.Itoa(i), number, api.KLink)
			r.next()
		default:
			dirs = append(dirs, r.dir(in, name))
		}
	}
	return r
}

// drawn is a path of some drawn names.
func drawn(dice *trial.Dice) string {
	path := ""
	for range 1 + dice.Below(5) {
		path += "/" + trial.One(dice, "a", "a", "b", "b", "c", "\xff\xc3", strings.Repeat("n", 54), "..", "n3", "again2", "again5")
	}
	return path
}

// padded has more slashes where one stands, and "/." behind parts, as far as a path may be long.
func padded(dice *trial.Dice, path string) string {
	for range 1 + dice.Below(6) {
		at := dice.Below(len(path) + 1)
		if at < len(path) && path[at] != '/' {
			continue
		}
		more := strings.Repeat("/", 1+dice.Below(3))
		if at > 0 {
			more = trial.One(dice, more, "/.", "/./.", "/.//")
		}
		if at == len(path) && !strings.HasSuffix(path, "/") || at < len(path) {
			path = path[:at] + more + path[at:]
		}
	}
	return path
}

// P1105 of drawn trees.
func TestP1105Drawn(t *testing.T) {
	t.Parallel()
	dice := newDice(1105)
	followed := 0
	for range 40 {
		r := grown(t, dice, 20)
		dirs, e := r.All(api.KDir)
		is(t, "All", e, api.OK)
		for _, number := range dirs {
			r.climbs(number, dice)
		}
		for range 200 {
			path := drawn(dice)
			with, withE := r.Resolve(path, true)
			without, e := r.Resolve(path, false)
			if e == api.OK && without.Kind != api.KLink && (with != without || withE != api.OK) {
				t.Fatalf("Resolve(%q): %+v with follow false, %+v, %v with follow true", path, without, with, withE)
			}
			if with != without {
				followed++
			}
			other := padded(dice, path)
			if got, e := r.Resolve(other, true); got != with || e != withE {
				t.Fatalf("Resolve(%q): %+v, %v; of %q %+v, %v", path, with, withE, other, got, e)
			}
			if got, gotE := r.Resolve(other, false); got != without || gotE != e {
				t.Fatalf("Resolve(%q): %+v, %v; of %q %+v, %v", path, without, e, other, got, gotE)
			}
		}
		is(t, "State", r.State(), api.OK)
	}
	if followed < 100 {
		t.Errorf("the draw is thin: %d", followed)
	}
}

// climbs asks that a directory's path leads to it, with more slashes in it too.
func (r *tree) climbs(number int, dice *trial.Dice) {
	r.t.Helper()
	path, e := r.Path(number)
	is(r.t, "Path", e, api.OK)
	for _, path := range []string{path, path + "/", path + "//", "/" + path, path + "/.", padded(dice, path), strings.ReplaceAll(path, "/", "///")} {
		for _, follow := range []bool{true, false} {
			got, e := r.Resolve(path, follow)
			if len(path) > 1023 {
				is(r.t, "Resolve of a path that is too long", e, api.ErrLong)
			} else if e != api.OK || got.Node != number || got.Kind != api.KDir {
				r.t.Fatalf("Path(%d): Resolve(%q, %v): %+v, %v", number, path, follow, got, e)
			}
		}
	}
}

// A path just as long as may be, and one that is longer by one byte.
func TestP1105LongPath(t *testing.T) {
	r := planted(t, wide)
	in := 1
	for range 18 {
		in = r.dir(in, strings.Repeat("d", 54))
	}
	just, over := r.dir(in, strings.Repeat("j", 32)), r.dir(in, strings.Repeat("o", 33))
	front := strings.Repeat("/"+strings.Repeat("d", 54), 18)
	r.path(just, front+"/"+strings.Repeat("j", 32))
	r.path(over, front+"/"+strings.Repeat("o", 33))
	r.leadsBoth(front+"/"+strings.Repeat("j", 32), place(in, strings.Repeat("j", 32), just, api.KDir))
	r.stopsBoth(front+"/"+strings.Repeat("o", 33), api.ErrLong)
	r.stopsBoth(front+"//"+strings.Repeat("j", 32), api.ErrLong)
	r.leadsBoth(front+"/"+strings.Repeat("n", 32), place(in, strings.Repeat("n", 32), 0, 0))
}
