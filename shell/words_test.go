package shell_test

import (
	"bytes"
	"fmt"
	"regexp"
	"slices"
	"strconv"
	"strings"
	"testing"

	"vellum/api"
	"vellum/shell"
	"vellum/trial"
)

// The chapter's words on words, as patterns.
const (
	bareWord   = `[^\x00-\x20\x7f"\\#][^\x00-\x20\x7f"\\]*`
	quotedWord = `"(?:[^\x00-\x1f\x7f"\\]|\\[\\"nt]|\\x[0-9a-fA-F][0-9a-fA-F])*"`
	anyWord    = `(?:` + quotedWord + `|` + bareWord + `)`
)

var (
	wholeLine = regexp.MustCompile(`\A[ \t]*(?:` + anyWord + `[ \t]+)*(?:` + anyWord + `|#(?s:.*))?\z`)
	nextWord  = regexp.MustCompile(`\A[ \t]*(` + anyWord + `)`)
	anEscape  = regexp.MustCompile(`\\(?:x..|.)`)
)

// wordsOf are the words of a line, or none, if it is no line of words.
func wordsOf(line string) ([]string, api.Errno) {
	if len(line) > 65536 {
		return nil, api.ErrLong
	}
	if !wholeLine.MatchString(line) {
		return nil, api.ErrWord
	}
	var words []string
	for m := nextWord.FindStringSubmatch(line); m != nil; m = nextWord.FindStringSubmatch(line) {
		words = append(words, standsFor(m[1]))
		line = line[len(m[0]):]
	}
	return words, api.OK
}

func standsFor(word string) string {
	if word[0] != '"' {
		return word
	}
	return anEscape.ReplaceAllStringFunc(word[1:len(word)-1], func(escape string) string {
		if escape[1] == 'x' {
			n, _ := strconv.ParseInt(escape[2:], 16, 0)
			return string([]byte{byte(n)})
		}
		return map[byte]string{'n': "\n", 't': "\t", '\\': `\`, '"': `"`}[escape[1]]
	})
}

func asksWords(t *testing.T, line string) {
	t.Helper()
	want, e := wordsOf(line)
	got, err := shell.Words(line)
	if err != e || !slices.Equal(got, want) {
		t.Fatalf("P1601: Words(%.100q) = %.100q, %v, want %.100q, %v", line, got, err, want, e)
	}
}

func TestP1601WordsSaid(t *testing.T) {
	for _, c := range []struct {
		line string
		want []string
	}{
		{"", nil}, {"   \t\t ", nil}, {"#", nil}, {" # \"", nil}, {"a", []string{"a"}}, {" a ", []string{"a"}}, {"\ta\tb\t", []string{"a", "b"}},
		{"a #b", []string{"a"}}, {"a#b", []string{"a#b"}}, {"a# b", []string{"a#", "b"}}, {`"" a ""`, []string{"", "a", ""}}, {`"a b	`, nil},
		{`"#" '#'`, []string{"#", "'#'"}}, {`"a" #"`, []string{"a"}}, {`"\\"`, []string{`\`}}, {`"\\\\" "\""`, []string{`\\`, `"`}},
		{`"\n\t\x0a\x09\x00\x7F\xfF"`, []string{"\n\t\n\t\x00\x7f\xff"}}, {"\"\xc3\xa9\xff\" \xc3\xa9\xff\x80", []string{"\u00e9\xff", "\u00e9\xff\x80"}},
		{`"\x411"`, []string{"A1"}}, {`"\\x41"`, []string{`\x41`}}, {`"\\n"`, []string{`\n`}}, {"\u00a0 \u2003", []string{"\u00a0", "\u2003"}},
		{"\xe3\x80 a", []string{"\xe3\x80", "a"}}, {"\xf0\x9f\"", nil}, {"#\n\x00\x7f\\", nil}, {"a\v", nil}, {"a\f", nil}, {"a\r", nil}, {"\n", nil},
	} {
		asksWords(t, c.line)
		if got, _ := shell.Words(c.line); !slices.Equal(got, c.want) {
			t.Errorf("P1601: Words(%q) = %q, want %q", c.line, got, c.want)
		}
	}
}

func TestP1601EveryByteEverywhere(t *testing.T) {
	for x := range 256 {
		b := string([]byte{byte(x)})
		for _, form := range []string{"%s", "a%s", "%sa", "a%sb", "a %s", "%s a", `"%s"`, `"a%s"`, `"a"%s`, `"a" %s`, `"a"%s b`, `%s"a"`, "#%s", "# %s", "a #%s", `"\%s"`, `"\%s41"`, `"\x%s1"`, `"\x1%s"`, `"\x1%s1"`, "%[1]s%[1]s", `"%[1]s`} {
			asksWords(t, fmt.Sprintf(form, b))
		}
		for y := range 256 {
			asksWords(t, `"\x`+b+string([]byte{byte(y)})+`"`)
		}
	}
}

// Every line of few bytes, of which each stands for its kind.
func TestP1601EveryShortLine(t *testing.T) {
	alphabet := " \t#\"\\xn4\x01\x7f\xff"
	lines := []string{""}
	for range 5 {
		var longer []string
		for _, line := range lines {
			for i := range len(alphabet) {
				longer = append(longer, line+alphabet[i:i+1])
			}
		}
		for _, line := range longer {
			asksWords(t, line)
		}
		lines = longer
	}
}

func TestP1601DrawnLines(t *testing.T) {
	dice := trial.NewDice(1601)
	for range 20000 {
		line := ""
		for range dice.Below(12) {
			line += trial.One(dice, " ", "\t", "  ", "a", "b#", "\"", "\"\"", "\"c d\"", "#", `\`, `\\`, `\"`, `\n`, `\x4a`, `\xG0`, "\xff", "\u00e9", "\u65e5", "\x7f", "\x0b", "41")
		}
		asksWords(t, line)
	}
}

func TestP1601Long(t *testing.T) {
	for _, unit := range []string{"x", " ", "#", "\"", "\\", "\n", "\xff", "a ", `\"`, `"a" `} {
		for _, n := range []int{65535, 65536, 65537, 131072} {
			asksWords(t, strings.Repeat(unit, n/len(unit)+1)[:n])
		}
	}
	asksWords(t, `"`+strings.Repeat("x", 65534)+`"`)
	asksWords(t, `"`+strings.Repeat("x", 65535)+`"`)
}

func TestP1601NewMemory(t *testing.T) {
	line := "a \"b\" c"
	first, _ := shell.Words(line)
	second, _ := shell.Words(line)
	first[0], first[2] = "x", "y"
	_ = append(first[:1], "z")
	if !slices.Equal(second, []string{"a", "b", "c"}) {
		t.Errorf("P2: the answers of two calls share memory: %q", second)
	}
}

// quoteOf says the chapter's words on a quoted word.
func quoteOf(b []byte) string {
	var text strings.Builder
	for _, x := range b {
		switch {
		case x == '\\':
			text.WriteString(`\\`)
		case x == '"':
			text.WriteString(`\"`)
		case x == 10:
			text.WriteString(`\n`)
		case x == 9:
			text.WriteString(`\t`)
		case x < 32, x >= 127:
			fmt.Fprintf(&text, `\x%02x`, x)
		default:
			text.WriteByte(x)
		}
	}
	return `"` + text.String() + `"`
}

func asksQuote(t *testing.T, b []byte) {
	t.Helper()
	was := bytes.Clone(b)
	got := shell.Quote(b)
	if want := quoteOf(b); got != want {
		t.Fatalf("P1602: Quote(%.100q) = %.100s, want %.100s", b, got, want)
	}
	if !bytes.Equal(b, was) {
		t.Fatalf("P2: Quote changes %q into %q", was, b)
	}
	if len(got) > 65536 {
		return
	}
	if words, e := shell.Words(got); e != api.OK || len(words) != 1 || words[0] != string(b) {
		t.Fatalf("P1602: Words(Quote(%.100q)) = %.100q, %v", b, words, e)
	}
}

func TestP1602Quote(t *testing.T) {
	asksQuote(t, nil)
	asksQuote(t, []byte{})
	for x := range 256 {
		asksQuote(t, []byte{byte(x)})
		for y := range 256 {
			asksQuote(t, []byte{byte(x), byte(y)})
		}
	}
	dice := trial.NewDice(1602)
	for n := range 300 {
		asksQuote(t, dice.Bytes(n))
	}
	for _, n := range []int{65534, 65535, 70000} {
		asksQuote(t, bytes.Repeat([]byte("x"), n))
	}
	asksQuote(t, bytes.Repeat([]byte{0}, 16383)) // 65534 bytes
	asksQuote(t, bytes.Repeat([]byte{0}, 16384)) // 65538: no line holds it
}

func TestP1602Said(t *testing.T) {
	for _, c := range []struct{ b, want string }{
		{"", `""`}, {"/a b#", `"/a b#"`}, {"\\\"\n\t", `"\\\"\n\t"`}, {"\x00\r\x1f ~\x7f\x80\xab\xff", `"\x00\x0d\x1f ~\x7f\x80\xab\xff"`}, {"\u00e9", `"\xc3\xa9"`},
	} {
		if got := shell.Quote([]byte(c.b)); got != c.want {
			t.Errorf("P1602: Quote(%q) = %s, want %s", c.b, got, c.want)
		}
	}
}
