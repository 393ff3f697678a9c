package find_test

import (
	"fmt"
	"regexp"
	"slices"
	"strconv"
	"strings"

	"vellum/api"
	"vellum/fs"
	"vellum/shell"
	"vellum/site"
	"vellum/walk"
)

// The chapter's words, one by one. First patterns: their pieces by regular expressions, in which each byte is a letter of its own.

const (
	unitWord   = `(?:\\.|[^\]\\-])`
	memberWord = unitWord + `(?:-` + unitWord + `)?`
	setWord    = `\[(?:!(?:` + memberWord + `)+|(?:\\.|[^\]\\!-])(?:-` + unitWord + `)?(?:` + memberWord + `)*)\]`
)

var (
	nextPiece  = regexp.MustCompile(`(?s)\A(?:\\.|\*+|` + setWord + `|[^\\\[*])`)
	nextMember = regexp.MustCompile(`(?s)\A` + memberWord)
	nextUnit   = regexp.MustCompile(`(?s)\A` + unitWord)
)

// letters is a text in which each byte is a letter.
func letters(text string) string {
	var list []rune
	for _, b := range []byte(text) {
		list = append(list, rune(b))
	}
	return string(list)
}

// expression is what a pattern says as a regular expression, and whether it is a pattern.
func expression(pattern string) (string, bool) {
	var all strings.Builder
	for left := letters(pattern); left != ""; {
		piece := nextPiece.FindString(left)
		if piece == "" {
			return "", false
		}
		left = left[len(piece):]
		switch {
		case piece[0] == '\\':
			all.WriteString(regexp.QuoteMeta(piece[1:]))
		case piece == "?":
			all.WriteString(`[^/]`)
		case piece == "*":
			all.WriteString(`[^/]*`)
		case piece[0] == '*':
			all.WriteString(`(?s:.*)`)
		case piece[0] == '[':
			set, is := setExpression(piece)
			if !is {
				return "", false
			}
			all.WriteString(set)
		default:
			all.WriteString(regexp.QuoteMeta(piece))
		}
	}
	return all.String(), true
}

// setExpression names each byte of a set.
func setExpression(piece string) (string, bool) {
	inside, others := strings.CutPrefix(piece[1:len(piece)-1], "!")
	var has [256]bool
	for inside != "" {
		member := nextMember.FindString(inside)
		inside = inside[len(member):]
		first := nextUnit.FindString(member)
		last := strings.TrimPrefix(member[len(first):], "-")
		if last == "" {
			last = first
		}
		from, to := letter(first), letter(last)
		if from > to {
			return "", false
		}
		for b := from; b <= to; b++ {
			has[b] = true
		}
	}
	set := ""
	for b := range has {
		if has[b] != others && b != '/' {
			set += fmt.Sprintf(`\x{%x}`, b)
		}
	}
	if set == "" {
		return `[^\x{0}-\x{10ffff}]`, true // no byte at all
	}
	return "[" + set + "]", true
}

// letter is the byte of a unit.
func letter(unit string) int {
	list := []rune(unit)
	return int(list[len(list)-1])
}

// matchOf is what Match answers.
func matchOf(pattern, text string) (bool, api.Errno) {
	if len(pattern) > 255 {
		return false, api.ErrLong
	}
	says, is := expression(pattern)
	if !is {
		return false, api.ErrPattern
	}
	if len(text) > 1023 {
		return false, api.ErrLong
	}
	return ofExpression(says)(text), api.OK
}

// matcher says which texts are of a pattern that is one.
func matcher(pattern string) func(text string) bool {
	says, _ := expression(pattern)
	return ofExpression(says)
}

func ofExpression(says string) func(text string) bool {
	is := regexp.MustCompile(`\A(?:` + says + `)\z`)
	return func(text string) bool { return is.MatchString(letters(text)) }
}

// Then queries.

// tree is a query, or a part of one: its first word, the others that belong to it, and its parts.
type tree struct {
	word  string
	args  []string
	parts []tree
}

// argument is what may stand at a place of a term.
type argument func(word string) api.Errno

func oneOf(words string) argument {
	return func(word string) api.Errno { return must(slices.Contains(strings.Fields(words), word), api.ErrQuery) }
}

// must is the error, unless it is right.
func must(right bool, e api.Errno) api.Errno {
	if right {
		return api.OK
	}
	return e
}

func aNumber(word string) api.Errno {
	return must(regexp.MustCompile(`\A[0-9]{1,9}\z`).MatchString(word), api.ErrQuery)
}

func aPattern(word string) api.Errno {
	_, e := matchOf(word, "")
	return e
}

func aPath(word string) api.Errno {
	_, e := walk.Split(word)
	return e
}

func someBytes(word string) api.Errno { return must(len(word) <= 255, api.ErrLong) }

// termsOf is the table of terms: what stands behind each first word.
func termsOf() map[string][]argument {
	compared := []argument{oneOf("< <= = != >= >"), aNumber}
	return map[string][]argument{
		"all": {}, "empty": {}, "sparse": {}, "kind": {oneOf("file dir link")},
		"name": {aPattern}, "path": {aPattern}, "target": {aPattern},
		"size": compared, "owned": compared, "links": compared, "node": compared, "depth": compared,
		"under": {aPath}, "same": {aPath}, "holds": {someBytes}, "begins": {someBytes},
	}
}

// judge says what is wrong in a query, word by word, and what is open at each.
func judge(query string) api.Errno {
	if len(query) > 1023 {
		return api.ErrLong
	}
	words, e := shell.Words(query)
	if e != api.OK {
		return api.ErrQuery
	}
	var open []string
	var wanted []argument
	whole := false // a unit is there
	ends := func() {
		for whole = true; len(open) > 0 && open[len(open)-1] != "("; {
			open = open[:len(open)-1]
		}
	}
	for _, word := range words {
		args, isTerm := termsOf()[word]
		opens := slices.Contains([]string{"not", "has", "("}, word)
		switch {
		case len(wanted) > 0:
			if e := wanted[0](word); e != api.OK {
				return e
			}
			if wanted = wanted[1:]; len(wanted) == 0 {
				ends()
			}
		case whole && (word == "and" || word == "or"):
			whole = false
		case whole && word == ")" && len(open) > 0:
			open = open[:len(open)-1]
			ends()
		case !whole && opens && len(open) == 16:
			return api.ErrDeep
		case !whole && opens:
			open = append(open, word)
		case !whole && isTerm:
			if wanted = args; len(args) == 0 {
				ends()
			}
		default:
			return api.ErrQuery
		}
	}
	return must(whole && len(open) == 0 && len(wanted) == 0, api.ErrQuery)
}

// parsed is the tree of a right query: what was read waits for what binds less.
func parsed(query string) tree {
	words, _ := shell.Words(query)
	binds := map[string]int{"(": 0, "or": 1, "and": 2, "not": 3, "has": 3}
	var done []tree
	var waits []string
	apply := func() {
		word := waits[len(waits)-1]
		waits = waits[:len(waits)-1]
		n := 2 - binds[word]/3
		parts := slices.Clone(done[len(done)-n:])
		done = append(done[:len(done)-n], tree{word: word, parts: parts})
	}
	for i := 0; i < len(words); i++ {
		word := words[i]
		switch word {
		case "not", "has", "(":
			waits = append(waits, word)
		case "and", "or":
			for len(waits) > 0 && binds[waits[len(waits)-1]] >= binds[word] {
				apply()
			}
			waits = append(waits, word)
		case ")":
			for waits[len(waits)-1] != "(" {
				apply()
			}
			waits = waits[:len(waits)-1]
		default:
			n := len(termsOf()[word])
			done = append(done, tree{word: word, args: words[i+1 : i+1+n]})
			i += n
		}
	}
	for len(waits) > 0 {
		apply()
	}
	return done[0]
}

// flat has the parts of an or within an or, and of an and within an and, in the row of the outer one.
func (t tree) flat() tree {
	is := tree{word: t.word, args: t.args}
	for _, part := range t.parts {
		part = part.flat()
		if part.word == t.word && (t.word == "or" || t.word == "and") {
			is.parts = append(is.parts, part.parts...)
		} else {
			is.parts = append(is.parts, part)
		}
	}
	return is
}

// text is how a flat tree is printed.
func (t tree) text() string {
	switch t.word {
	case "and", "or":
		var list []string
		for _, part := range t.parts {
			if t.word == "and" && part.word == "or" {
				list = append(list, "( "+part.text()+" )")
			} else {
				list = append(list, part.text())
			}
		}
		return strings.Join(list, " "+t.word+" ")
	case "not", "has":
		if inside := t.parts[0]; inside.word == "and" || inside.word == "or" {
			return t.word + " ( " + inside.text() + " )"
		}
		return t.word + " " + t.parts[0].text()
	case "name", "path", "target", "holds", "begins":
		return t.word + " " + shell.Quote([]byte(t.args[0]))
	case "under", "same":
		return t.word + " " + shell.Quote([]byte(pathText(t.args[0])))
	case "all", "empty", "sparse", "kind":
		return strings.Join(append([]string{t.word}, t.args...), " ")
	}
	number := strings.TrimLeft(t.args[1], "0")
	if number == "" {
		number = "0"
	}
	return t.word + " " + t.args[0] + " " + number
}

// pathText is a path by its parts.
func pathText(path string) string {
	text := ""
	parts, _ := walk.Split(path)
	for _, part := range parts {
		text += "/" + part
	}
	if text == "" {
		return "/"
	}
	return text
}

// printOf is what Print answers.
func printOf(query string) (string, api.Errno) {
	if e := judge(query); e != api.OK {
		return "", e
	}
	return parsed(query).flat().text(), api.OK
}

// And finds.

// spot is a find.
type spot struct {
	text  string
	depth int
	stat  api.Stat
}

// belowOf are the finds below one.
func belowOf(f *fs.FS, s spot) []spot {
	if s.stat.Kind != 2 {
		return nil
	}
	var list []spot
	for _, entry := range f.Do(site.List(s.text)).Entries {
		text := s.text + "/" + entry.Name
		if s.text == "/" {
			text = "/" + entry.Name
		}
		if len(text) > 1023 {
			continue
		}
		if reply := f.Do(site.Lstat(text)); reply.Err == api.OK {
			list = append(list, spot{text, s.depth + 1, reply.Stat})
		}
	}
	return list
}

// spotsOf are a find and all finds below it, in their order.
func spotsOf(f *fs.FS, s spot) []spot {
	list := []spot{s}
	for _, next := range belowOf(f, s) {
		list = append(list, spotsOf(f, next)...)
	}
	return list
}

// holdsAt is what the table of P1907 says.
func holdsAt(f *fs.FS, t tree, s spot) bool {
	k := s.stat
	switch t.word {
	case "all":
		return true
	case "empty":
		return k.Kind == 1 && k.Size == 0 || k.Kind == 2 && len(f.Do(site.List(s.text)).Entries) == 0
	case "sparse":
		return k.Kind == 1 && holesIn(f, s) > 0
	case "kind":
		return map[string]int{"file": 1, "dir": 2, "link": 3}[t.args[0]] == k.Kind
	case "size", "owned", "links", "node", "depth":
		n, _ := strconv.Atoi(t.args[1])
		is := map[string]int{"size": k.Size, "owned": k.Owned, "links": k.Links, "node": k.Node, "depth": s.depth}[t.word]
		return map[string]bool{"<": is < n, "<=": is <= n, "=": is == n, "!=": is != n, ">=": is >= n, ">": is > n}[t.args[0]]
	case "name":
		parts := strings.Split(s.text, "/")
		return matches(t.args[0], parts[len(parts)-1])
	case "path":
		return matches(t.args[0], s.text)
	case "target":
		return k.Kind == 3 && matches(t.args[0], f.Do(site.Readlink(s.text)).Text)
	case "under":
		q, _ := walk.Split(t.args[0])
		p, _ := walk.Split(s.text)
		return len(p) >= len(q) && slices.Equal(p[:len(q)], q)
	case "same":
		reply := f.Do(site.Stat(t.args[0]))
		return reply.Err == api.OK && reply.Stat.Node == k.Node
	case "holds":
		return k.Kind != 2 && strings.Contains(contentOf(f, s), t.args[0])
	case "begins":
		return k.Kind != 2 && strings.HasPrefix(contentOf(f, s), t.args[0])
	case "not":
		return !holdsAt(f, t.parts[0], s)
	case "has":
		return slices.ContainsFunc(belowOf(f, s), func(next spot) bool { return holdsAt(f, t.parts[0], next) })
	}
	count := 0
	for _, part := range t.parts {
		if holdsAt(f, part, s) {
			count++
		}
	}
	return t.word == "and" && count == len(t.parts) || t.word == "or" && count > 0
}

func matches(pattern, text string) bool {
	is, _ := matchOf(pattern, text)
	return is
}

// holesIn counts the holes of a file, index by index.
func holesIn(f *fs.FS, s spot) int {
	runs, count := f.Do(site.Runs(s.text)).Runs, 0
	for i := 0; 512*i < s.stat.Size; i++ {
		if !slices.ContainsFunc(runs, func(r api.Run) bool { return r.From <= i && i < r.To }) {
			count++
		}
	}
	return count
}

// contentOf is the text of a link, or what a file holds, of which the first 65536 bytes are looked at.
func contentOf(f *fs.FS, s spot) string {
	if s.stat.Kind == 3 {
		return f.Do(site.Readlink(s.text)).Text
	}
	text := ""
	for len(text) < 65536 {
		piece := f.Do(site.Read(s.text, len(text), 8192)).Data
		if len(piece) == 0 {
			break
		}
		text += string(piece)
	}
	return text
}

// findsOf are the finds of a Run, and its error.
func findsOf(f *fs.FS, path, query string) ([]spot, api.Errno) {
	if _, _, e := f.Space(); e == api.ErrDead {
		return nil, e
	}
	if _, e := walk.Split(path); e != api.OK {
		return nil, e
	}
	if e := judge(query); e != api.OK {
		return nil, e
	}
	reply := f.Do(site.Stat(path))
	if reply.Err != api.OK {
		return nil, reply.Err
	}
	var list []spot
	whole := parsed(query)
	for _, s := range spotsOf(f, spot{pathText(path), 0, reply.Stat}) {
		if holdsAt(f, whole, s) {
			list = append(list, s)
		}
	}
	return list, api.OK
}

func textsOf(spots []spot) []string {
	var list []string
	for _, s := range spots {
		list = append(list, s.text)
	}
	return list
}

// tallyOf is what Tally answers of finds.
func tallyOf(spots []spot) api.Tally {
	tally := api.Tally{Found: len(spots)}
	nodes := map[int]api.Stat{}
	for _, s := range spots {
		nodes[s.stat.Node] = s.stat
	}
	for _, k := range nodes {
		tally.Nodes++
		tally.Size += k.Size
		tally.Owned += k.Owned
		switch k.Kind {
		case 1:
			tally.Files++
		case 2:
			tally.Dirs++
		case 3:
			tally.Links++
		}
	}
	return tally
}
