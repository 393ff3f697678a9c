package find_test

import (
	"slices"
	"strings"
	"testing"

	"vellum/api"
	"vellum/find"
	"vellum/shell"
	"vellum/site"
	"vellum/trial"
)

// sample is the chapter's tree, on a disk that is asked for each block.
func sample(t *testing.T) *site.Ground {
	t.Helper()
	return planted(t, api.Super{Sectors: 100, Log: 18, Nodes: 12},
		site.Create("/a"), site.Write("/a", 0, "hello"), site.Mkdir("/d"), site.Link("/a", "/d/b"), site.Create("/d/c"), site.Truncate("/d/c", 2000), site.Symlink("/l", "d/b"))
}

// planted is a file system on which operations were done.
func planted(t *testing.T, form api.Super, ops ...api.Op) *site.Ground {
	t.Helper()
	g := site.Fresh(t, form)
	g.All(ops...)
	trial.Is(t, "Checkpoint", g.F.Checkpoint(), api.OK)
	return g
}

// runs asks what Run, Each and Tally answer, by the chapter's words; it tells the texts.
func runs(g *site.Ground, path, query string) ([]string, api.Errno) {
	g.T.Helper()
	spots, e := findsOf(g.F, path, query)
	want := textsOf(spots)
	got, gotE := find.Run(g.F, path, query)
	if !slices.Equal(got, want) || gotE != e {
		g.T.Fatalf("P1907, P1908: Run(%.200q, %.1000q): %.1500q, %v, want %.1500q, %v", path, query, got, gotE, want, e)
	}
	tally, gotE := find.Tally(g.F, path, query)
	if tally != tallyOf(spots) || gotE != e {
		g.T.Fatalf("P1910: Tally(%.200q, %.1000q): %+v, %v, want %+v, %v", path, query, tally, gotE, tallyOf(spots), e)
	}
	seq, gotE := find.Each(g.F, path, query)
	if gotE != e || (seq == nil) != (e != api.OK) {
		g.T.Fatalf("P1909: Each(%.200q, %.1000q): %v, want %v", path, query, gotE, e)
	}
	if seq != nil && !slices.Equal(slices.Collect(seq), want) {
		g.T.Fatalf("P1909: Each(%.200q, %.1000q): %.1500q, want %.1500q", path, query, slices.Collect(seq), want)
	}
	return got, gotE
}

// tells asks that a Run from the root tells these texts, with blanks between.
func tells(g *site.Ground, query, want string) {
	g.T.Helper()
	if got, e := runs(g, "/", query); strings.Join(got, " ") != want || e != api.OK {
		g.T.Fatalf("Run(%.300q): %.1500q, %v, want %.1500q", query, strings.Join(got, " "), e, want)
	}
}

// asker draws queries over a tree of these paths.
type asker struct {
	*trial.Dice
	paths []string
}

// termWords draws a term.
func (d asker) termWords() []string {
	switch word := trial.One(d.Dice, "all", "empty", "sparse", "kind", "kind", "name", "name", "path", "path", "target", "size", "owned", "links", "node", "depth", "under", "same", "holds", "begins"); word {
	case "all", "empty", "sparse":
		return []string{word}
	case "kind":
		return []string{word, trial.One(d.Dice, "file", "dir", "link")}
	case "name", "path", "target":
		return []string{word, d.pattern()}
	case "under", "same":
		return []string{word, d.path()}
	case "holds", "begins":
		return []string{word, d.bytes()}
	default:
		return []string{word, trial.One(d.Dice, "<", "<=", "=", "!=", ">=", ">"), trial.One(d.Dice, "0", "1", "2", "3", "007", "4", "5", "512", "255", "999999999", "000000000", "1024", "2000")}
	}
}

func (d asker) path() string {
	return trial.One(d.Dice, d.all()...) + trial.One(d.Dice, "", "", "", "/", "/.", "/..", "/a", "//b")
}

// all are the paths of the tree, and some others.
func (d asker) all() []string {
	return append([]string{"/", "//", "/./", "/none", "/a", "/b"}, d.paths...)
}

// pattern draws one that is right; some have to do with the tree.
func (d asker) pattern() string {
	for {
		pattern := trial.One(d.Dice, "*", "**", "?", "/*", "/**", "/*/*", "[a-c]", "[!a]*", "**/a", "*.*", "", drawnPattern(d.Dice), d.like(trial.One(d.Dice, d.all()...)))
		if _, is := expression(pattern); is {
			return pattern
		}
	}
}

// like is a pattern that a path may be of.
func (d asker) like(path string) string {
	var pattern strings.Builder
	for _, b := range []byte(path) {
		switch d.Below(6) {
		case 0:
			pattern.WriteString("*")
		case 1:
			pattern.WriteString("?")
		default:
			pattern.Write([]byte{'\\', b})
		}
	}
	return pattern.String()[:min(200, pattern.Len())/2*2]
}

func (d asker) bytes() string {
	return trial.One(d.Dice, "", "a", "b", "..", "ell", "h", "\x00", "\x00\x00\x00", "t", "tt", "a.b", "/", "\xff", string(d.Bytes(1)))
}

// words draws a right query of a number of terms.
func (d asker) words(terms int) []string {
	if terms <= 1 {
		switch d.Below(12) {
		case 0, 1:
			return append([]string{"not"}, d.unit(1)...)
		case 2, 3:
			return append([]string{"has"}, d.unit(1)...)
		}
		return d.termWords()
	}
	left := 1 + d.Below(terms-1)
	joint := trial.One(d.Dice, "and", "or")
	all := slices.Concat(d.side(left), []string{joint}, d.side(terms-left))
	if d.Below(4) == 0 {
		return append([]string{trial.One(d.Dice, "not", "has", "has")}, bracketed(all)...)
	}
	return all
}

// side draws what stands beside an and or an or.
func (d asker) side(terms int) []string {
	if d.Below(3) == 0 {
		return bracketed(d.words(terms))
	}
	return d.words(terms)
}

// unit draws what stands behind not and has.
func (d asker) unit(terms int) []string {
	if d.Below(2) == 0 {
		return bracketed(d.words(terms))
	}
	return append(trial.One(d.Dice, nil, []string{"not"}, []string{"has"}, []string{"not", "has"}), d.termWords()...)
}

func bracketed(words []string) []string { return slices.Concat([]string{"("}, words, []string{")"}) }

// query draws a right one, written in one of many ways.
func (d asker) query() string {
	for {
		if query := d.written(d.words(1 + d.Below(5))); judge(query) == api.OK {
			return query
		}
	}
}

// written is how words may be written.
func (d asker) written(words []string) string {
	text := trial.One(d.Dice, "", "", " ", "\t ")
	for i, word := range words {
		if i > 0 {
			text += trial.One(d.Dice, " ", " ", " ", "\t", "  \t")
		}
		bare, e := shell.Words(word)
		if e != api.OK || len(bare) != 1 || bare[0] != word || d.Below(6) == 0 {
			word = shell.Quote([]byte(word))
		}
		text += word
	}
	return text + trial.One(d.Dice, "", "", " ", " # and so on")
}

// plain is a query of these words, all of them quoted.
func plain(words ...string) string {
	var list []string
	for _, word := range words {
		list = append(list, shell.Quote([]byte(word)))
	}
	return strings.Join(list, " ")
}
