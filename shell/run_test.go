package shell_test

import (
	"fmt"
	"strings"
	"testing"

	"vellum/shell"
)

// said is a line and its answer.
type said [2]string

// plays asks that each line of a script has its answer.
func plays(t *testing.T, pairs ...said) {
	t.Helper()
	var script, want []string
	for _, p := range pairs {
		script, want = append(script, p[0]), append(want, p[1])
	}
	got := linesOf(t, shell.Run(strings.Join(script, "\n")+"\n"))
	if len(got) != len(want) {
		t.Fatalf("P1603: %d lines of answer to %d lines: %.200q", len(got), len(want), got)
	}
	for i, line := range want {
		if got[i] != line {
			t.Errorf("line %d, %.100s: %.300q, want %.300q", i+1, script[i], got[i], line)
		}
	}
}

// linesOf are the lines of an answer.
func linesOf(t *testing.T, answer string) []string {
	t.Helper()
	if answer == "" {
		return nil
	}
	text, ends := strings.CutSuffix(answer, "\n")
	if !ends {
		t.Fatalf("P1603: the last line does not end: %.200q", answer)
	}
	return strings.Split(text, "\n")
}

// mounted is a script, ahead of another one, that mounts an empty file system.
func mounted(sectors, log, nodes int, pairs ...said) []said {
	first := []said{{fmt.Sprint("disk ", sectors), "ok"}, {fmt.Sprint("mkfs ", log, " ", nodes), "ok"}, {"mount", "ok"}}
	return append(first, pairs...)
}

func TestP1603Lines(t *testing.T) {
	for _, c := range []struct{ script, want string }{
		{"", ""}, {"\n", "\n"}, {" ", "\n"}, {" \n", "\n"}, {"\n ", "\n\n"}, {"\n\n\n", "\n\n\n"}, {"#", "\n"}, {"# a\n# b", "\n\n"},
		{"disk 1", "ok\n"}, {"disk 1\n", "ok\n"}, {"disk 1\n\n", "ok\n\n"}, {"\ndisk 1\n \t\nx\n", "\nok\n\nword\n"}, {"disk 1\r\n", "word\n"}, {"disk 1 #\r\n", "ok\n"},
		{"disk\t1\ndisk 2 # two", "ok\nok\n"}, {"tape \"a\nb\"", "word\nword\n"}, {"\x00", "word\n"}, {"\"\"", "word\n"},
	} {
		if got := shell.Run(c.script); got != c.want {
			t.Errorf("P1603: Run(%q) = %q, want %q", c.script, got, c.want)
		}
	}
}

func TestP1603Long(t *testing.T) {
	lines := func(n int) string { return strings.Repeat("disk 1\n", n) }
	oks := func(n int) string { return strings.Repeat("ok\n", n) }
	bytes := func(n int) string { return "disk 1\n#" + strings.Repeat(" ", n-8) }
	for _, c := range []struct{ what, script, want string }{
		{"512 lines", lines(512), oks(512)}, {"511 lines and one without an end", lines(511) + "disk 1", oks(512)},
		{"512 lines and one without an end", lines(512) + "#", "long\n"}, {"513 lines", lines(513), "long\n"}, {"513 empty lines", strings.Repeat("\n", 513), "long\n"},
		{"65536 bytes", bytes(65536), "ok\n\n"}, {"65537 bytes", bytes(65537), "long\n"}, {"65536 bytes and an end", bytes(65536) + "\n", "long\n"},
		{"65536 bytes in 512 lines", lines(511) + "#" + strings.Repeat(" ", 65536-512*7+5) + "\n", oks(511) + "\n"},
		{"65536 line ends", strings.Repeat("\n", 65536), "long\n"}, {"much", strings.Repeat("x", 1<<20), "long\n"},
	} {
		if got := shell.Run(c.script); got != c.want {
			t.Errorf("P1603: %s (%d bytes): %.100q", c.what, len(c.script), got)
		}
	}
}

// One line may take the whole script: what it writes is all there.
func TestP1603LongLine(t *testing.T) {
	lead := "disk 256\nmkfs 18 4\nmount\ncreate /a\nwrite /a 0 "
	data := strings.Repeat("x", 65536-len(lead)-len("\nstat /a"))
	want := fmt.Sprintf("ok\nok\nok\nok\nok %d\nok 2 file 1 %d %d\n", len(data), len(data), (len(data)+511)/512+1)
	if got := shell.Run(lead + data + "\nstat /a"); got != want {
		t.Errorf("P1603: %q, want %q", got, want)
	}
}

func TestP1604NothingIsLeft(t *testing.T) {
	plays(t, mounted(64, 18, 4, said{"create /a", "ok"}, said{"open /a 3", "ok 1"}, said{"dump", "ok 34 1975853833"}, said{"items", "ok 1"})...)
	for range 2 {
		plays(t, said{"items", "archive"}, said{"restore", "ended"}, said{"space", "ended"}, said{"fstat 1", "ended"}, said{"fuse 1", "ended"}, said{"mount", "ended"}, said{"disk 64", "ok"}, said{"mount", "corrupt"}, said{"space", "ended"})
	}
}

// row is a line of the chapter's table: a command, what it needs, and what comes behind its name: a path, bytes or another text (t), or a number (n).
type row struct{ name, needs, form string }

func table() []row {
	var rows []row
	for _, line := range strings.Split(`disk - n;fuse disk n;cut disk;cut disk nnn;cut disk nnnnnn;mkfs disk nn;mount disk;sync fs;checkpoint fs;space fs;check fs n;create fs t;mkdir fs t;unlink fs t;rmdir fs t;symlink fs tt;link fs tt;rename fs tt;read fs tnn;write fs tnt;truncate fs tn;punch fs tnn;stat fs t;lstat fs t;list fs t;readlink fs t;runs fs t;tree fs;open fs tn;get fs nn;put fs nt;seek fs nnn;fstat fs n;close fs n;dump fs;restore fs;tape - t;items -`, ";") {
		part := append(strings.Fields(line), "")
		rows = append(rows, row{part[0], part[1], part[2]})
	}
	return rows
}

// line is the command with such words behind it.
func (r row) line(text, number string) string {
	line := r.name
	for _, letter := range r.form {
		if letter == 't' {
			line += " " + text
		} else {
			line += " " + number
		}
	}
	return line
}

// with is the command with right words, but one of them.
func (r row) with(at int, word string) string {
	words := strings.Fields(r.line("/t", "1"))
	words[at+1] = word
	return strings.Join(words, " ")
}

// answerTo is the answer to the last line of a script.
func answerTo(t *testing.T, lines ...string) string {
	t.Helper()
	got := linesOf(t, shell.Run(strings.Join(lines, "\n")))
	if len(got) != len(lines) {
		t.Fatalf("P1603: %d lines of answer to %d lines", len(got), len(lines))
	}
	return got[len(got)-1]
}

// grounds are what there may be at hand, from nothing on.
func grounds() [][]string {
	return [][]string{nil, {"disk 64"}, {"disk 64", "mkfs 18 4", "mount"}, {"disk 64", "mkfs 18 4", "mount", "fuse 0"}, {"disk 64", "mkfs 18 4", "mount", "cut"}}
}

func TestP1605Needs(t *testing.T) {
	for _, r := range table() {
		for i, ground := range grounds() {
			got := answerTo(t, append(ground, r.line("/t", "1"))...)
			ended := r.needs == "disk" && i == 0 || r.needs == "fs" && i <= 1
			if ended != (got == "ended") || got == "word" || got == "" {
				t.Errorf("P1605: %s, behind %q: %q", r.line("/t", "1"), ground, got)
			}
		}
	}
}

// A number of words that is none of the command's.
func TestP1605Count(t *testing.T) {
	counts := map[string]map[int]bool{}
	for _, r := range table() {
		if counts[r.name] == nil {
			counts[r.name] = map[int]bool{}
		}
		counts[r.name][len(r.form)] = true
	}
	for name, right := range counts {
		for n := range 8 {
			for _, ground := range grounds() {
				for _, word := range []string{"1", `"1"`} {
					got := answerTo(t, append(ground, name+strings.Repeat(" "+word, n))...)
					if right[n] == (got == "word") {
						t.Errorf("P1605: %s with %d words, behind %q: %q", name, n, ground, got)
					}
				}
			}
		}
	}
	triples := strings.Repeat(" 1 1 0", 80)
	plays(t, said{"disk 4", "ok"}, said{"cut" + triples, "ok"}, said{"cut" + triples + " 1", "word"}, said{"cut" + triples + " 1 1", "word"})
}

// nonumbers are words that are no numbers; they are written so that they are one word each.
func nonumbers() []string {
	return []string{
		`""`, "-", "+", "+5", "--5", "-+5", "5-", "1e3", "1.0", "1_0", "0x1", "0b1", "x", "1x", "x1", "1,0", `" 1"`, `"1 "`, `"1 2"`, `"\n1"`, `"1\n"`, `"\x00"`, `"-\x31a"`,
		"1234567890", "0000000001", "-1234567890", "-0000000001", "99999999999999999999", "-99999999999999999999", "\u0663", "\uff11", "\xb2", "1\xff",
	}
}

func TestP1605Numbers(t *testing.T) {
	for _, word := range nonumbers() {
		for _, r := range table() {
			for i, letter := range r.form {
				line := r.with(i, word)
				for _, ground := range grounds()[:3] {
					if got := answerTo(t, append(ground, line)...); (letter == 'n') != (got == "word") {
						t.Errorf("P1605: %s, behind %q: %q", line, ground, got)
					}
				}
			}
		}
	}
	for _, word := range []string{"0", "-0", "7", "-7", "000000007", "-000000007", "999999999", "-999999999", `"7"`, `"\x37"`, `"\x2d7"`} {
		for _, r := range table() {
			for i := range r.form {
				line := r.with(i, word)
				if got := answerTo(t, "disk 64", "mkfs 18 4", "mount", line); got == "word" {
					t.Errorf("P1605: %s: %q", line, got)
				}
			}
		}
	}
}

// What a number means, each digit of it, and with its sign.
func TestP1605WhatNumbersMean(t *testing.T) {
	pairs := mounted(64, 18, 4, said{"open /a 9", "ok 1"})
	for _, c := range []struct{ word, want string }{
		{"0", "0"}, {"1234567", "1234567"}, {"987", "987"}, {"8459264", "8459264"}, {"008459264", "8459264"}, {"-0", "0"}, {"-000", "0"}, {`"\x34\x32"`, "42"},
	} {
		pairs = append(pairs, said{"seek 1 " + c.word + " 0", "ok " + c.want})
	}
	plays(t, append(pairs, said{"seek 1 -40 1", "ok 2"}, said{"seek 1 -3 1", "arg"}, said{"seek 1 -000000002 1", "ok 0"}, said{"seek 1 8459265 0", "big"}, said{"seek 1 999999999 0", "big"}, said{"seek 1 -999999999 0", "arg"})...)
}

// What is no command, whatever there is at hand.
func TestP1605Unknown(t *testing.T) {
	for _, ground := range grounds() {
		for _, line := range []string{
			"frob", "Disk 64", "DISK 64", "disks 64", "dis 64", `""`, `"" disk 64`, `" disk" 64`, `"disk 64"`, "/a", "64", "-", "ls /", "disk64", "exit", `"mount\n"`, "rm /a", "tape", "cut cut", "sync sync", "mount 1",
			`disk "64`, `disk 64"`, `disk "64"x`, `disk \64`, "disk 64\x7f", "\x01disk 64", `mount "`, `tape "\q"`, `frob "`, "stat /a\\",
		} {
			if got := answerTo(t, append(ground, line)...); got != "word" {
				t.Errorf("P1605: %s, behind %q: %q", line, ground, got)
			}
		}
	}
	plays(t, said{`"disk" "64"`, "ok"}, said{`"\x6dkfs" 18 "4"`, "ok"}, said{"  mount  ", "ok"}, said{"\tspace\t#", "ok 40 3"}, said{"space#", "word"}, said{"sync # sync sync", "ok"}, said{"# frob", ""})
}

// What is refused as no command changes nothing.
func TestP1605NothingDone(t *testing.T) {
	plays(t, mounted(64, 18, 4, said{"create /a", "ok"}, said{"disk 64 x", "word"}, said{"disk x", "word"}, said{"fuse 0 0", "word"}, said{"cut 1", "word"}, said{"cut 0 0 x", "word"}, said{"mkfs 18", "word"}, said{"mkfs 18 4 4", "word"}, said{"mount 0", "word"}, said{`unlink "/a`, "word"}, said{"unlink /a /a", "word"}, said{"tape", "word"}, said{"list /", `ok "a" 2 file 0`})...)
}
