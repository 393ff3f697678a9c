package shell_test

import (
	"fmt"
	"slices"
	"strings"
	"sync"
	"testing"

	"vellum/shell"
	"vellum/trial"
)

// A run without power cuts has one answer, however often it is played, and beside how many others.
func TestP1608OneAnswer(t *testing.T) {
	for seed := range 6 {
		d := drawer{trial.NewDice(16080 + seed)}
		lines, _ := d.script()
		lines = slices.DeleteFunc(lines, func(line string) bool {
			words, _ := wordsOf(line)
			return len(words) > 0 && (words[0] == "cut" || words[0] == "fuse")
		})
		script := strings.Join(lines, "\n")
		want := shell.Run(script)
		var all sync.WaitGroup
		answers := make([]string, 6)
		for i := range answers {
			all.Go(func() { answers[i] = shell.Run(script) })
		}
		all.Wait()
		for _, got := range answers {
			if got != want {
				t.Fatalf("P1608: script %d has two answers", seed)
			}
		}
	}
}

// steps are commands of one step each, and what makes them last.
func steps() []string {
	return strings.Split(`create /a;write /a 0 hello;mkdir /d;sync;link /a /d/b;symlink d/b /l;write /l 4000 ten;rename /d /e;open /e/b 3;unlink /a;checkpoint;put 1 HE;unlink /e/b;punch /l 0 3;put 1 more;truncate /e/b 0;sync;close 1;unlink /l;create /e/f;write /e/f 5000 x;write /e/f 80000 y;truncate /e/f 5500;rename /e/f /g;rmdir /e;checkpoint;symlink g /h;link /h /i;unlink /h;write /i 512 z`, ";")
}

// ground is what is there ahead of the steps.
var ground = []string{"disk 100", "mkfs 18 8", "mount"}

// prefixTrees are the trees behind each number of steps.
func prefixTrees(t *testing.T) []string {
	t.Helper()
	var trees []string
	for n := range len(steps()) + 1 {
		trees = append(trees, answerTo(t, slices.Concat(ground, steps()[:n], []string{"tree"})...))
	}
	return trees
}

// The power is cut at every write and flush of a row of steps: a mount shows the tree behind some number of them, no fewer than at the last command that made them last, and no more than were begun.
func TestP1608EveryCut(t *testing.T) {
	trees := prefixTrees(t)
	for fuse := 0; ; fuse++ {
		through := false
		for _, picks := range trial.Picks() {
			cut := "cut"
			for _, p := range picks {
				cut += fmt.Sprint(" ", p.A, " ", p.B, " ", p.Cut)
			}
			script := slices.Concat(ground, []string{fmt.Sprint("fuse ", fuse)}, steps(), []string{cut, "space", "fstat 1", "mount", "tree", "check 2", "cut", "mount", "tree"})
			got := linesOf(t, shell.Run(strings.Join(script, "\n")))
			through = asksCut(t, fmt.Sprintf("fuse %d, %s", fuse, cut), got[len(ground)+1:], trees)
		}
		if through {
			return
		}
	}
}

// asksCut asks for what may be told of the steps and behind them; it answers whether the fuse lasted.
func asksCut(t *testing.T, what string, got, trees []string) (through bool) {
	t.Helper()
	sure, begun := 0, 0
	answers, behind := got[:len(steps())], got[len(steps()):]
	for i, step := range steps() {
		begun = i + 1
		if answers[i] == "dead" {
			break
		}
		through = i == len(steps())-1
		if step == "sync" || step == "checkpoint" {
			sure = i + 1
		}
	}
	for i, answer := range answers[begun-1:] {
		if !through && answer != "dead" {
			t.Fatalf("P1608: %s: %s behind the end of the fuse: %q", what, steps()[begun-1+i], answer)
		}
	}
	want := []string{"ok", "dead", "dead", "ok", behind[4], behind[5], "ok", "ok", behind[4]}
	if !slices.Equal(behind, want) || !strings.HasPrefix(behind[5], "ok ") || strings.Fields(behind[5])[4] != "0" {
		t.Fatalf("P1608: %s: %q", what, behind)
	}
	if !slices.Contains(trees[sure:begun+1], behind[4]) {
		t.Fatalf("P1608: %s: the tree %s is none of those behind %d to %d steps", what, behind[4], sure, begun)
	}
	return through
}
