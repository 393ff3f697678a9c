package walk_test

import (
	"slices"
	"strconv"
	"strings"
	"testing"

	"vellum/api"
)

func TestP1103Example9(t *testing.T) {
	r := sample(t)
	r.inside(2, 1, true)
	r.inside(1, 2, false)
	r.inside(2, 2, true)
	r.notInside(3, 1, api.ErrNotDir)
	r.notInside(2, 9, api.ErrRange)
	is(t, "State", r.State(), api.OK)
}

func TestP1104Example10(t *testing.T) {
	r := sample(t)
	r.path(2, "/d")
	r.path(1, "/")
	r.noPath(3, api.ErrNotDir)
	is(t, "State", r.State(), api.OK)
}

// The numbers first, from left to right; then what the slots hold, node's ahead of dir's.
func TestP1103Arguments(t *testing.T) {
	r := sample(t)
	all := []int{1, 2, 3, 4, 8}
	all = append(all, badNumbers...)
	was := blocks(t, r)
	for _, bad := range badNumbers {
		r.noPath(bad, api.ErrRange)
		for _, number := range all {
			r.notInside(bad, number, api.ErrRange)
			r.notInside(number, bad, api.ErrRange)
		}
	}
	r.noPath(8, api.ErrNode)
	r.noPath(4, api.ErrNotDir)
	for _, number := range []int{1, 2} {
		r.notInside(number, 8, api.ErrNode)
		r.notInside(number, 3, api.ErrNotDir)
		r.notInside(number, 4, api.ErrNotDir)
	}
	for _, in := range []int{1, 2, 3, 4, 8} {
		r.notInside(8, in, api.ErrNode)
		r.notInside(3, in, api.ErrNotDir)
		r.notInside(4, in, api.ErrNotDir)
	}
	is(t, "State", r.State(), api.OK)
	if list := unlike(was, blocks(t, r)); list != nil {
		t.Fatalf("P4: the blocks %v are changed", list)
	}
}

// climbSpoils asks that both calls that climb from there answer ErrCorrupt, which spoils; it takes them back.
func (r *tree) climbSpoils(number, in int) {
	r.t.Helper()
	r.notInside(number, in, api.ErrCorrupt)
	asks(r.t, r.Walk, api.ErrCorrupt)
	r.undone()
	r.noPath(number, api.ErrCorrupt)
	asks(r.t, r.Walk, api.ErrCorrupt)
	r.undone()
}

// A slot of the table that is broken.
func TestP1103BrokenSlot(t *testing.T) {
	r := sample(t)
	r.breaks(2)
	r.next()
	r.notInside(2, 9, api.ErrRange)
	r.notInside(8, 2, api.ErrNode)
	r.notInside(3, 2, api.ErrNotDir)
	r.climbSpoils(2, 2)
	r.climbSpoils(2, 3)
	r.notInside(1, 2, api.ErrCorrupt)
	asks(t, r.Walk, api.ErrCorrupt)
}

// What is no directory, or not there, is no parent; it is not asked where nothing climbs to it.
func TestP1103NoParent(t *testing.T) {
	for _, parent := range []int{3, 4, 8, 9, 1024} {
		r := planted(t, small)
		r.dir(1, "a") // 2
		r.file(1, "f")
		r.link(1, "l", "f")
		r.dir(2, "b") // 5
		r.dir(5, "c") // 6
		r.dir(1, "z") // 7
		r.hangs(5, parent)
		r.next()
		for _, number := range []int{5, 6} {
			for _, in := range []int{1, 2, 7} {
				r.climbSpoils(number, in)
			}
		}
		r.inside(5, 5, true)
		r.inside(6, 5, true)
		r.inside(2, 5, false)
		r.inside(7, 6, false)
		r.inside(1, 5, false)
		r.path(2, "/a")
		r.path(7, "/z")
	}
	r := sample(t)
	r.hangs(2, 8)
	r.breaks(8)
	r.next()
	r.climbSpoils(2, 1)
}

// Each of a drawn row of directories lies inside of those above it, itself too, and of no other.
func TestP1103Tree(t *testing.T) {
	dice := newDice(1103)
	r := planted(t, wide)
	above := map[int][]int{1: {1}}
	names := map[int]string{1: ""}
	for range 30 {
		in := 1 + dice.Below(len(above))
		number := r.dir(in, "n"+strconv.Itoa(dice.Below(1000))+"."+strconv.Itoa(len(above)))
		above[number] = append(slices.Clone(above[in]), number)
		entries, e := r.List(in)
		is(t, "List", e, api.OK)
		for _, entry := range entries {
			if entry.Node == number {
				names[number] = names[in] + "/" + entry.Name
			}
		}
	}
	for number := range above {
		for in := range above {
			r.inside(number, in, slices.Contains(above[number], in))
		}
		if number > 1 {
			r.path(number, names[number])
		}
	}
}

// Where the parents go round: what lies on the round, or leads into it.
func TestP1103Round(t *testing.T) {
	for length := 1; length <= 5; length++ {
		r := planted(t, wide)
		in := 1
		for i := range 7 {
			in = r.dir(in, strconv.Itoa(i)) // 2 to 8
		}
		r.dir(1, "z") // 9
		last := 2 + length
		r.hangs(3, last)
		r.add(last, "round", 3, api.KDir)
		r.next()
		for number := 3; number <= 8; number++ {
			for _, out := range []int{1, 2, 9} {
				r.climbSpoils(number, out)
			}
			for in := 3; in <= 8; in++ {
				if in <= last || in <= number {
					r.inside(number, in, true)
				} else {
					r.notInside(number, in, api.ErrCorrupt)
					r.undone()
				}
			}
		}
		r.inside(2, 1, true)
		r.inside(2, 3, false)
		r.path(2, "/0")
	}
}

// On a round without names the first one that is missing is told.
func TestP1104RoundWithoutName(t *testing.T) {
	for missing := 2; missing <= 6; missing++ {
		r := planted(t, wide)
		in := 1
		for i := range 5 {
			in = r.dir(in, strconv.Itoa(i)) // 2 to 6
		}
		r.hangs(2, 6)
		r.add(6, "round", 2, api.KDir)
		r.next()
		r.noPath(4, api.ErrCorrupt)
		r.undone()
		name := []string{2: "round", 3: "1", 4: "2", 5: "3", 6: "4"}[missing]
		is(t, "Del", r.Del([]int{2: 6, 3: 2, 4: 3, 5: 4, 6: 5}[missing], name), api.OK)
		r.next()
		for number := 2; number <= 6; number++ {
			r.noPath(number, api.ErrNotFound)
		}
		is(t, "State", r.State(), api.OK)
	}
}

// As deep as can be: every node a directory within the one before, or within the one behind it. The path is longer than any that Split takes.
func TestP1104Deepest(t *testing.T) {
	for _, rising := range []bool{true, false} {
		r := planted(t, large)
		for range 1023 {
			r.make(api.KDir, 1)
			r.next()
		}
		row := []int{1}
		for i := range 1023 {
			number := 2 + i
			if !rising {
				number = 1024 - i
			}
			in := row[len(row)-1]
			r.hangs(number, in)
			r.add(in, strings.Repeat("n", 50)+strconv.Itoa(number), number, api.KDir)
			r.next()
			row = append(row, number)
		}
		want := ""
		for _, number := range row[1:] {
			want += "/" + strings.Repeat("n", 50) + strconv.Itoa(number)
		}
		deepest := row[1023]
		r.path(deepest, want)
		r.inside(deepest, 1, true)
		r.inside(deepest, deepest, true)
		r.inside(deepest, row[1], true)
		r.inside(1, deepest, false)
		r.inside(row[512], row[513], false)
		r.inside(row[512], row[511], true)
		r.stopsBoth(want, api.ErrLong)
		is(t, "State", r.State(), api.OK)
	}
}

// The name of a directory is the first of those that name it in its parent, whatever kind they say and wherever they stand.
func TestP1104FirstName(t *testing.T) {
	r := planted(t, small)
	r.dir(1, "m")
	r.dir(1, "other")
	r.add(3, "a", 2, api.KDir) // not in its parent
	r.add(1, "n", 2, api.KDir)
	r.path(2, "/m")
	r.add(1, "b", 2, api.KFile)
	r.path(2, "/b")
	r.add(1, "B", 3, api.KDir)
	r.path(2, "/b")
	r.add(1, "b\x01", 2, api.KDir)
	r.path(2, "/b")
	is(t, "Del", r.Del(1, "b"), api.OK)
	r.path(2, "/b\x01")
	r.add(1, "Z", 2, api.KLink)
	r.path(2, "/Z")
	r.add(1, "\xff", 2, api.KDir)
	for _, name := range []string{"Z", "b\x01", "m", "n"} {
		r.path(2, "/"+name)
		is(t, "Del", r.Del(1, name), api.OK)
	}
	r.path(2, "/\xff")
	is(t, "Del", r.Del(1, "\xff"), api.OK)
	r.noPath(2, api.ErrNotFound)
	r.inside(2, 1, true)
	r.path(3, "/B")
	is(t, "State", r.State(), api.OK)
}

// The parent is asked ahead of the name; a parent whose content is broken is told by Path alone.
func TestP1104ParentFirst(t *testing.T) {
	r := sample(t)
	number := r.make(api.KDir, 2)
	r.noPath(number, api.ErrNotFound)
	r.hangs(number, 3)
	r.next()
	r.noPath(number, api.ErrCorrupt)
	r.undone()
	r.hangs(number, 2)
	is(t, "WriteAt", r.WriteAt(2, 100, []byte("broken")), api.OK)
	r.next()
	r.inside(number, 1, true)
	r.noPath(number, api.ErrCorrupt)
	asks(t, r.Walk, api.ErrCorrupt)
}

// A root that is no directory is no parent either.
func TestP1103RootIsNone(t *testing.T) {
	for _, kind := range []int{api.KFile, api.KLink} {
		r := bare(t, small)
		r.make(kind, 0)
		r.make(api.KDir, 1)
		r.make(api.KDir, 2)
		r.add(2, "x", 3, api.KDir)
		r.next()
		r.noPath(1, api.ErrNotDir)
		r.notInside(1, 1, api.ErrNotDir)
		r.notInside(2, 1, api.ErrNotDir)
		r.inside(3, 2, true)
		r.climbSpoils(2, 3)
		r.noPath(3, api.ErrCorrupt)
	}
}
