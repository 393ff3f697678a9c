package shell

import (
	"strconv"
	"strings"

	"vellum/api"
)

const (
	blanks  = " \t"
	comment = '#'
	quote   = '"'
	escape  = '\\'
	del     = 127
)

// Words tells the words of one line.
func Words(line string) ([]string, api.Errno) {
	if len(line) > maxScript {
		return nil, api.ErrLong
	}
	var words []string
	for rest := unblanked(line); rest != "" && rest[0] != comment; rest = unblanked(rest) {
		word, behind, ok := first(rest)
		if !ok {
			return nil, api.ErrWord
		}
		words, rest = append(words, word), behind
	}
	return words, api.OK
}

func unblanked(text string) string { return strings.TrimLeft(text, blanks) }

// first takes off the word with which a text begins.
func first(text string) (word, rest string, ok bool) {
	if text[0] == quote {
		return quoted(text[1:])
	}
	return bare(text)
}

// bare takes off a bare word.
func bare(text string) (word, rest string, ok bool) {
	end := len(text)
scan:
	for i, r := range text {
		switch {
		case strings.ContainsRune(blanks, r):
			end = i
			break scan
		case !isPlain(r):
			return "", "", false
		}
	}
	return text[:end], text[end:], true
}

// quoted takes off a quoted word, whose first quote is off already.
func quoted(text string) (word, rest string, ok bool) {
	end := closing(text)
	if end < 0 {
		return "", "", false
	}
	rest = text[end+1:]
	if rest != "" && rest == unblanked(rest) {
		return "", "", false
	}
	word, ok = meant(text[:end])
	return word, rest, ok
}

// closing is where the quote stands that ends a quoted word, or -1. Which escapes there are is not its business: a backslash that begins none is refused later, wherever the word ends.
func closing(text string) int {
	end, escaped := -1, false
scan:
	for i, r := range text {
		switch {
		case escaped:
			escaped = false
		case r == escape:
			escaped = true
		case r == quote:
			end = i
			break scan
		}
	}
	return end
}

// meant is what the inside of a quoted word stands for.
func meant(inside string) (string, bool) {
	var word []byte
	for inside != "" {
		b, rest, ok := firstByte(inside)
		if !ok {
			return "", false
		}
		word, inside = append(word, b), rest
	}
	return string(word), true
}

// firstByte takes off the byte for which the beginning of such an inside stands.
func firstByte(inside string) (b byte, rest string, ok bool) {
	if isPlain(rune(inside[0])) {
		return inside[0], inside[1:], true
	}
	if inside[0] != escape || len(inside) < 2 {
		return 0, "", false
	}
	rest = inside[2:]
	switch inside[1] {
	case escape, quote:
		return inside[1], rest, true
	case 'n':
		return '\n', rest, true
	case 't':
		return '\t', rest, true
	case 'x':
		return hexadecimal(rest)
	}
	return 0, "", false
}

// hexadecimal takes off a byte that is written as two digits.
func hexadecimal(text string) (b byte, rest string, ok bool) {
	if len(text) < 2 {
		return 0, "", false
	}
	number, err := strconv.ParseUint(text[:2], 16, 8)
	return byte(number), text[2:], err == nil
}

// isPlain says whether a rune stands for itself in a word of either kind. (A byte that belongs to no rune is gone over as one above 127.)
func isPlain(r rune) bool { return r >= ' ' && r != del && r != quote && r != escape }

// Quote writes bytes as one word.
func Quote(b []byte) string {
	word := []byte{quote}
	for _, x := range b {
		word = append(word, escaped(x)...)
	}
	return string(append(word, quote))
}

// escaped is how a byte is written in a quoted word.
func escaped(x byte) string {
	const digits = "0123456789abcdef"
	switch {
	case x == escape || x == quote:
		return string([]byte{escape, x})
	case x == '\n':
		return `\n`
	case x == '\t':
		return `\t`
	case x < ' ' || x >= del:
		return string([]byte{escape, 'x', digits[x>>4], digits[x&15]})
	}
	return string([]byte{x})
}
