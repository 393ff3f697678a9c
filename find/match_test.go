package find_test

import (
	"slices"
	"strings"
	"testing"
	"time"

	"vellum/api"
	"vellum/find"
	"vellum/trial"
)

// asks asks what Match answers, by the chapter's words.
func asks(t *testing.T, pattern, text string) (bool, api.Errno) {
	t.Helper()
	is, e := find.Match(pattern, text)
	if want, wantE := matchOf(pattern, text); is != want || e != wantE {
		t.Fatalf("P1901, P1902: Match(%.300q, %.300q): %v, %v, want %v, %v", pattern, text, is, e, want, wantE)
	}
	return is, e
}

// takes are the bytes that, as a text of one byte, are of a pattern.
func takes(t *testing.T, pattern string) string {
	t.Helper()
	var list []byte
	for b := range 256 {
		is, e := find.Match(pattern, string([]byte{byte(b)}))
		trial.Is(t, "P1901: Match of "+pattern, e, api.OK)
		if is {
			list = append(list, byte(b))
		}
	}
	return string(list)
}

// without are all bytes but the slash and these.
func without(bytes string) string {
	var list []byte
	for b := range 256 {
		if b != '/' && strings.IndexByte(bytes, byte(b)) < 0 {
			list = append(list, byte(b))
		}
	}
	return string(list)
}

// Which bytes each piece stands for.
func TestP1901Pieces(t *testing.T) {
	every := string(slices.Sorted(slices.Values([]byte(without("") + "/"))))
	for _, c := range []struct{ pattern, want string }{
		{"?", without("")}, {"*", without("")}, {"**", every}, {"***", every}, {"?*", without("")}, {"*?", without("")}, {"**?**", without("")}, {"*/", "/"}, {"/*", "/"}, {"", ""},
		{"[abc]", "abc"}, {"[cba]", "abc"}, {"[a-c]", "abc"}, {"[a-cx-z]", "abcxyz"}, {"[xa-c-]", "no"}, {"[a-a]", "a"}, {"[aa]", "a"}, {"[a-cb-d]", "abcd"}, {"[+\\--.]", "+-."}, {"[\\--/]", "-."},
		{"[!abc]", without("abc")}, {"[!a-c]", without("abc")}, {"[!a-cb-d]", without("abcd")}, {"[!!]", without("!")}, {"[!\\!]", without("!")}, {"[!!-#]", without("!\"#")}, {"[!/]", without("")}, {"[!\\]]", without("]")},
		{"[/]", ""}, {"[\\/]", ""}, {"[.-0]", ".0"}, {"[!.-0]", without(".0")}, {"[\x00-\xff]", without("")}, {"[!\x00-\xff]", ""}, {"[\x80-\xff]", every[128:]},
		{"[[]", "["}, {"[*]", "*"}, {"[?]", "?"}, {"[*?[]", "*?["}, {"[a!]", "!a"}, {"[\\!]", "!"}, {"[\\]]", "]"}, {"[\\-]", "-"}, {"[\\\\]", "\\"}, {"[\\a]", "a"}, {"[\\a-\\c]", "abc"}, {"[a-\\c]", "abc"}, {"[\\]-a]", "]^_`a"}, {"[Z-\\]]", "Z[\\]"}, {"[!]-a]", "no"}, {"[ -#]", " !\"#"}, {"[--0]", "no"}, {"[\\--\\-]", "-"}, {"[a\\-c]", "-ac"},
		{"]", "]"}, {"-", "-"}, {"!", "!"}, {"/", "/"}, {"\\/", "/"}, {"\\*", "*"}, {"\\?", "?"}, {"\\[", "["}, {"\\\\", "\\"}, {"\\]", "]"}, {"\\a", "a"}, {"\\n", "n"}, {"a", "a"}, {"\xff", "\xff"}, {"\x00", "\x00"}, {" ", " "}, {".", "."}, {"^", "^"}, {"{", "{"},
	} {
		if c.want == "no" {
			if is, e := find.Match(c.pattern, "a"); is || e != api.ErrPattern {
				t.Errorf("P1901: Match(%q): %v, %v, want ErrPattern", c.pattern, is, e)
			}
		} else if got := takes(t, c.pattern); got != c.want {
			t.Errorf("P1901: %q takes %q, want %q", c.pattern, got, c.want)
		}
	}
	for b := range 256 {
		one := string([]byte{byte(b)})
		if got := takes(t, "\\"+one); got != one {
			t.Errorf("P1901: a backslash and %q take %q", one, got)
		}
		if !strings.Contains("*?[\\", one) && takes(t, one) != one {
			t.Errorf("P1901: %q takes %q", one, takes(t, one))
		}
		if want := strings.TrimSuffix(one, "/"); takes(t, "[\\"+one+"]") != want {
			t.Errorf("P1901: the set of %q takes %q", one, takes(t, "[\\"+one+"]"))
		}
	}
}

func TestP1901Rows(t *testing.T) {
	for _, c := range []struct {
		pattern, text string
		want          bool
	}{
		{"a*c", "abbc", true}, {"a*c", "ac", true}, {"a*c", "a/c", false}, {"a*c", "abbcb", false}, {"a*c", "babbc", false},
		{"*", "", true}, {"**", "", true}, {"**", "/a/b", true}, {"*", "/", false}, {"/*/b", "/d/b", true}, {"/*", "/d/b", false}, {"/*", "/", true}, {"/**", "/d/b", true},
		{"*/*", "a/b", true}, {"*/*", "a/b/c", false}, {"**/*", "a/b/c", true}, {"*/**", "a/b/c", true}, {"a**b", "ab", true}, {"a**b", "a/b", true}, {"a*b", "ab/b", false},
		{"[a-cx]?", "xz", true}, {"[a-cx]?", "dz", false}, {"?", "", false}, {"?", "ab", false}, {"[!a]", "", false}, {"[!a]", "/", false},
		{"\\**", "*abc", true}, {"\\**", "abc", false}, {"\\**", "*a/c", false}, {"\\***", "*a/c", true}, {"*\\*", "a*", true}, {"*\\*", "a/*", false}, {"*\\**", "a*b", true}, {"[*]*", "*x", true}, {"[*]*", "*/", false}, {"[*]**", "*/", true},
		{"*a*a*a*", "aa", false}, {"*a*a*a*", "xaxaxax", true}, {"*a*a*a*", "xaxa/ax", false}, {"*?*", "", false}, {"*?*", "x", true}, {"??*??", "abc", false}, {"??*??", "abcd", true},
		{"*.b", "a.b.b", true}, {"**b*c", "x/b/bc", true}, {"**b*c", "x/b/b/c", false}, {"", "", true}, {"", "a", false}, {"a-b", "a-b", true}, {"a]", "a]", true}, {"!a", "!a", true},
	} {
		if is, e := asks(t, c.pattern, c.text); is != c.want || e != api.OK {
			t.Errorf("P1901: Match(%q, %q): %v, %v, want %v", c.pattern, c.text, is, e, c.want)
		}
	}
}

// What is no pattern, wherever it stands, and whatever the text is.
func TestP1901None(t *testing.T) {
	for _, wrong := range []string{"[", "[]", "[!", "[!]", "[a", "[a-", "[a-]", "[-]", "[-a]", "[!-a]", "[b-a]", "[!b-a]", "[a-b-c]", "[a--]", "[\\", "[a\\", "[\\]", "[a\\]", "[a-\\]", "[\xff-\x00]", "[a-\\]]", "\\"} {
		for _, around := range [][2]string{{"", ""}, {"a", ""}, {"*", ""}, {"\\\\", ""}, {"[a]", ""}, {"]", ""}} {
			for _, text := range []string{"", "a", wrong, "/"} {
				if is, e := find.Match(around[0]+wrong+around[1], text); is || e != api.ErrPattern {
					t.Errorf("P1901: Match(%q, %q): %v, %v, want ErrPattern", around[0]+wrong, text, is, e)
				}
			}
		}
	}
}

// rowsOf are all rows of these letters, up to a length.
func rowsOf(letters string, most int) []string {
	list := []string{""}
	for from := 0; most > 0; most-- {
		to := len(list)
		for _, row := range list[from:to] {
			for _, b := range []byte(letters) {
				list = append(list, row+string([]byte{b}))
			}
		}
		from = to
	}
	return list
}

// Every short pattern, and every short text.
func TestP1901Every(t *testing.T) {
	t.Parallel()
	texts := rowsOf("ab/", 3)
	for _, special := range rowsOf("*?[]!-\\", 1) {
		texts = append(texts, special, special+"a", "a"+special, special+special)
	}
	right, of := 0, 0
	for _, pattern := range rowsOf("ab/*?[]!-\\", 4) {
		_, is := expression(pattern)
		if !is {
			asks(t, pattern, "a")
			continue
		}
		right++
		of += asksAll(t, pattern, texts)
	}
	if right < 7000 || of < 4000 {
		t.Errorf("%d patterns and %d texts of them are few", right, of)
	}
}

// asksAll asks as asks does, of a pattern that is one; it tells how many texts are of it.
func asksAll(t *testing.T, pattern string, texts []string) int {
	t.Helper()
	is, of := matcher(pattern), 0
	for _, text := range texts {
		got, e := find.Match(pattern, text)
		if got != is(text) || e != api.OK {
			t.Fatalf("P1901: Match(%q, %q): %v, %v, want %v", pattern, text, got, e, is(text))
		}
		if got {
			of++
		}
	}
	return of
}

// drawnPattern draws a row of pieces; what it draws may be no pattern.
func drawnPattern(d *trial.Dice) string {
	pattern := ""
	for range d.Below(9) {
		pattern += trial.One(d, "*", "**", "?", "a", "b", "/", "*", "[ab]", "[!a]", "[!/]", "[a-c/]", "\\*", "\\a", "***", "[\\]a]", "[*-?]", string(d.Bytes(1)), "["+string(d.Bytes(1+d.Below(3)))+"]", "[!"+string(d.Bytes(1))+"-"+string(d.Bytes(1))+"]")
	}
	return pattern
}

// drawnText draws a text that may be of a pattern.
func drawnText(d *trial.Dice, pattern string) string {
	text := ""
	for range d.Below(12) {
		text += trial.One(d, "a", "b", "/", "c", "*", "a", "ab", "\xff", string(d.Bytes(1)))
	}
	if d.Below(2) == 0 {
		text = strings.NewReplacer("**", text, "*", trial.One(d, "", "a", "ab"), "?", trial.One(d, "a", "/"), "[ab]", "b", "[!a]", "b", "[!/]", "x", "[a-c/]", "c", "\\", "").Replace(pattern)
	}
	return text
}

func TestP1901Drawn(t *testing.T) {
	t.Parallel()
	d := trial.NewDice(1901)
	count := map[api.Errno]int{}
	of := 0
	for range 20000 {
		pattern := drawnPattern(d)
		is, e := asks(t, pattern, drawnText(d, pattern))
		count[e]++
		if is {
			of++
		}
	}
	if of < 2000 || count[api.ErrPattern] < 400 || count[api.OK]-of < 2000 {
		t.Errorf("the draw is thin: %v, %d", count, of)
	}
}

// The order of the errors, and the lengths at which they begin.
func TestP1902Errors(t *testing.T) {
	long := strings.Repeat
	for _, c := range []struct {
		pattern, text string
		is            bool
		want          api.Errno
	}{
		{long("a", 255), long("a", 255), true, api.OK}, {long("a", 256), long("a", 256), false, api.ErrLong}, {long("a", 256), "", false, api.ErrLong},
		{long("*", 255), long("/", 1023), true, api.OK}, {long("*", 256), "", false, api.ErrLong},
		{long("\\a", 127), long("a", 127), true, api.OK}, {long("\\a", 128), long("a", 128), false, api.ErrLong}, {"[" + long("a", 253) + "]", "a", true, api.OK}, {"[" + long("a", 254) + "]", "a", false, api.ErrLong},
		{long("[", 255), "", false, api.ErrPattern}, {long("[", 256), "", false, api.ErrLong}, {long("[", 256), long("a", 1024), false, api.ErrLong}, {long("a", 254) + "\\", "", false, api.ErrPattern}, {long("a", 255) + "\\", "", false, api.ErrLong},
		{"**", long("a", 1023), true, api.OK}, {"**", long("a", 1024), false, api.ErrLong}, {"a", long("a", 1024), false, api.ErrLong}, {"a", long("a", 1023), false, api.OK}, {"", long("a", 1024), false, api.ErrLong}, {"[", long("a", 1024), false, api.ErrPattern}, {"[", long("a", 1<<20), false, api.ErrPattern}, {long("a", 1<<20), long("a", 1<<20), false, api.ErrLong},
		{"*a", long("/", 1024), false, api.ErrLong}, {long("?", 255), long("a", 255), true, api.OK}, {long("?", 255), long("a", 254), false, api.OK}, {long("?", 255), long("a", 256), false, api.OK},
	} {
		if is, e := asks(t, c.pattern, c.text); is != c.is || e != c.want {
			t.Errorf("P1902: Match(%.20q, %.20q), of %d and %d bytes: %v, %v, want %v, %v", c.pattern, c.text, len(c.pattern), len(c.text), is, e, c.is, c.want)
		}
	}
}

// Patterns at which one who tries all ways would not come to an end.
func TestP1902Time(t *testing.T) {
	long := strings.Repeat
	for _, pattern := range []string{long("*a", 127), long("**a", 85), long("*", 255), long("*?", 127), long("**?", 85), long("*[ab]", 51), long("**[!b]", 42), long("*a**a", 51), "*" + long("a", 253) + "b", "[" + long("b", 251) + "]*"} {
		for _, text := range []string{long("a", 1022) + "c", long("a", 1023), long("ab", 511), long("/a", 511), ""} {
			began := time.Now()
			asks(t, pattern, text)
			for range 9 {
				find.Match(pattern, text)
			}
			if took := time.Since(began); took > 10*time.Second {
				t.Errorf("P1902: Match(%.20q, %.20q) took %v", pattern, text, took/10)
			}
		}
	}
}

// P1: whatever plain data it is given.
func TestP1Match(t *testing.T) {
	t.Parallel()
	d := trial.NewDice(19)
	for range 20000 {
		pattern := string(d.Bytes(d.Below(12)))
		for i := range d.Below(4) {
			pattern += trial.One(d, "[", "]", "\\", "-", "*", string(rune(d.Below(300))), string(d.Bytes(i)))
		}
		asks(t, pattern, string(d.Bytes(d.Below(9))))
	}
}
