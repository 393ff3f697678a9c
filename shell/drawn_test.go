package shell_test

import (
	"fmt"
	"strings"
	"testing"

	"vellum/shell"
	"vellum/trial"
)

// drawer draws orders, and writes them as lines.
type drawer struct {
	*trial.Dice
}

// names are few, so that they meet; they begin and end and are bytes of all kinds.
func (d drawer) name() string {
	if d.Below(4) > 0 {
		return trial.One(d.Dice, "a", "b", "c", "d")
	}
	return trial.One(d.Dice, "e", "f g", "\"", "\\#", "\xff\n", "..", ".", strings.Repeat("n", 54))
}

func (d drawer) path() string {
	path := ""
	for range trial.One(d.Dice, 1, 1, 1, 1, 2, 2, 3) {
		path += "/" + d.name()
	}
	switch d.Below(60) {
	case 0:
		return "/"
	case 1:
		return path[1:]
	case 2:
		return path + "/"
	case 3:
		return path + "/" + strings.Repeat("m", 55)
	}
	return path
}

func (d drawer) offset() int {
	return trial.One(d.Dice, 0, 0, 0, 1, 511, 512, 513, 1000, 4096, 5119, 5120, 6000, 70655, 70656, 8459263, 8459264, -1, d.Below(9000), d.Below(100000))
}

func (d drawer) count() int {
	return trial.One(d.Dice, 0, 1, 5, 512, 4095, 4096, 4097, 65536, 65537, -1, d.Below(3000), d.Below(3000), 999999999)
}

func (d drawer) bytes() string {
	switch d.Below(6) {
	case 0:
		return ""
	case 1:
		return string(d.Dice.Bytes(d.Below(60)))
	case 2:
		return strings.Repeat("w", d.Below(9000))
	}
	return trial.One(d.Dice, "x", "hello", "a b\n", strings.Repeat("q", 600), strings.Repeat("\x00", 40), "#")
}

// order draws one, mostly one that changes or asks something.
func (d drawer) order() order {
	path, other := d.path(), d.path()
	name := trial.One(d.Dice, "create", "create", "mkdir", "mkdir", "unlink", "rmdir", "symlink", "link", "rename", "rename", "read", "read", "write", "write", "write", "truncate", "punch", "stat", "lstat", "list", "readlink", "runs",
		"tree", "tree", "open", "open", "open", "get", "get", "put", "put", "put", "seek", "fstat", "close", "space", "check", "sync", "checkpoint", "dump", "restore", "tape", "items", "cut", "fuse", "mount", "mkfs", "disk")
	switch name {
	case "create", "mkdir", "unlink", "rmdir", "stat", "lstat", "list", "readlink", "runs":
		return order{name, []string{path}, nil}
	case "link", "rename":
		return order{name, []string{path, other}, nil}
	case "symlink":
		return order{name, []string{trial.One(d.Dice, path, path[1:], "..", d.bytes()), other}, nil}
	case "read", "punch":
		return order{name, []string{path}, []int{d.offset(), d.count()}}
	case "write":
		return order{name, []string{path, d.bytes()}, []int{d.offset()}}
	case "truncate":
		return order{name, []string{path}, []int{d.offset()}}
	case "open":
		return order{name, []string{path}, []int{trial.One(d.Dice, 1, 3, 9, 11, 11, 14, 15, 26, 34, 43, d.Below(70)-2)}}
	case "put":
		return order{name, []string{d.bytes()}, []int{d.handle()}}
	case "get":
		return order{name, nil, []int{d.handle(), d.count()}}
	case "seek":
		return order{name, nil, []int{d.handle(), trial.One(d.Dice, d.offset(), -d.Below(600)), trial.One(d.Dice, 0, 1, 2, 2, 3)}}
	case "fstat", "close":
		return order{name, nil, []int{d.handle()}}
	case "tape":
		return order{name, []string{d.bytes()}, nil}
	}
	return d.rare(name)
}

func (d drawer) handle() int {
	if d.Below(10) == 0 {
		return trial.One(d.Dice, 9, 16, 17, 0, -1)
	}
	return 1 + d.Below(3)
}

// rare draws what would leave little to be seen, were it done as often as all else.
func (d drawer) rare(name string) order {
	often := 3
	if name == "disk" || name == "mkfs" {
		often = 12
	}
	if d.Below(often) > 0 {
		return d.order()
	}
	switch name {
	case "disk":
		return order{name, nil, []int{trial.One(d.Dice, 0, 40, 64, 100)}}
	case "mkfs":
		return order{name, nil, []int{trial.One(d.Dice, 17, 18, 18, 20), trial.One(d.Dice, 4, 8, 16)}}
	case "fuse":
		return order{name, nil, []int{d.Below(40) - 1}}
	case "check":
		return order{name, nil, []int{d.Below(10)}}
	case "cut":
		var picks []int
		for range 3 * d.Below(4) {
			picks = append(picks, trial.One(d.Dice, 0, 1, 1, 1, 2, 512, d.Below(600)-2))
		}
		return order{name, nil, picks}
	}
	return order{name, nil, nil} // mount, dump, restore, items, space, tree, checkpoint
}

// line writes an order, one way of many.
func (d drawer) line(o order, form string) string {
	line := d.blanks(0) + d.word(o.name)
	texts, numbers := o.texts, o.numbers
	for _, letter := range form {
		line += d.blanks(1)
		if letter == 't' {
			line += d.word(texts[0])
			texts = texts[1:]
		} else {
			line += d.word(d.number(numbers[0]))
			numbers = numbers[1:]
		}
	}
	line += d.blanks(0)
	if d.Below(12) == 0 {
		line += " # \"x\\ \x01"
	}
	return line
}

func (d drawer) blanks(least int) string {
	text := strings.Repeat(" ", least)
	if d.Below(5) == 0 {
		text += trial.One(d.Dice, " ", "\t", " \t ")
	}
	return text
}

func (d drawer) number(n int) string {
	text := fmt.Sprint(n)
	if d.Below(8) == 0 && n >= 0 && len(text) < 8 {
		text = "0" + text
	}
	return text
}

// word writes a word bare, where that may be, or quoted, with escapes where they must be and where they need not be.
func (d drawer) word(text string) string {
	if d.Below(2) == 0 && text != "" && text[0] != '#' && !strings.ContainsFunc(text, func(r rune) bool { return r <= ' ' || r == 127 || r == '"' || r == '\\' }) {
		return text
	}
	if len(text) > 100 || d.Below(2) == 0 {
		return quoteOf([]byte(text))
	}
	word := ""
	for i := range len(text) {
		switch b := text[i]; {
		case b >= 128 && d.Below(2) == 0:
			word += text[i : i+1]
		case d.Below(6) == 0:
			word += fmt.Sprintf(trial.One(d.Dice, `\x%02x`, `\x%02X`), b)
		default:
			quoted := quoteOf([]byte{b})
			word += quoted[1 : len(quoted)-1]
		}
	}
	return `"` + word + `"`
}

// form are the letters of what comes behind a command's name.
func (o order) form() string {
	for _, r := range table() {
		if r.name == o.name && len(r.form) == len(o.texts)+len(o.numbers) {
			return r.form
		}
	}
	return strings.Repeat("n", len(o.numbers)) // more picks than the table shows
}

// script draws a script of as many lines and bytes as may be, and its answers.
func (d drawer) script() (script, answers []string) {
	var c clerk
	left := 65536
	lay := func(line string, answer func() string) {
		if left -= len(line) + 1; left >= 0 && len(script) < 512 {
			script, answers = append(script, line), append(answers, answer())
		}
	}
	play := func(o order) { lay(d.line(o, o.form()), func() string { return c.answer(o) }) }
	for d.Below(4) == 0 {
		play(d.order())
	}
	play(order{"disk", nil, []int{trial.One(d.Dice, 40, 64, 100, 300)}})
	play(order{"mkfs", nil, []int{18, trial.One(d.Dice, 4, 8, 16, 32)}})
	play(order{"mount", nil, nil})
	for len(script) < 512 && left > 0 {
		play(d.order())
		if last := answers[len(answers)-1]; (last == "dead" || last == "ended") && d.Below(3) == 0 {
			play(order{"cut", nil, []int{1, 1, 0}})
			play(order{"mount", nil, nil})
		}
		if answers[len(answers)-1] == "corrupt" {
			play(order{"mkfs", nil, []int{18, 16}})
		}
		if d.Below(25) == 0 {
			lay(trial.One(d.Dice, "", " ", "# no"), func() string { return "" })
		}
	}
	return script, answers
}

// Drawn scripts have the answers that the chapter's words give, those with power cuts too: the same is done on both disks.
func TestP1606DrawnScripts(t *testing.T) {
	met := map[string]int{}
	for seed := range 100 {
		d := drawer{trial.NewDice(16060 + seed)}
		script, answers := d.script()
		got := linesOf(t, shell.Run(strings.Join(script, "\n")+"\n"))
		if len(got) != len(script) {
			t.Fatalf("P1603: script %d: %d lines of answer to %d", seed, len(got), len(script))
		}
		for i, line := range script {
			if got[i] != answers[i] {
				t.Fatalf("script %d, line %d, %.200s: %.400q, want %.400q", seed, i+1, line, got[i], answers[i])
			}
			met[strings.Fields(line + " -")[0]+" "+strings.Fields(got[i] + " -")[0]]++
		}
	}
	// The draw is worth something only where it gets to much.
	for _, want := range []string{"write ok", "write nospace", "put ok", "put nospace", "get ok", "get long", "read long", "tree ok", "tree dead", "restore ok", "restore exists", "mount ok", "mount dead", "link ok", "rename ok", "rename inside", "dump ok", "items ok"} {
		if met[want] == 0 {
			t.Errorf("none of the drawn scripts has %q", want)
		}
	}
}
