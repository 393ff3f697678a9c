package find_test

import (
	"slices"
	"strings"
	"testing"

	"vellum/api"
	"vellum/find"
	"vellum/shell"
	"vellum/trial"
)

// prints asks what Print answers, by the chapter's words.
func prints(t *testing.T, query string) (string, api.Errno) {
	t.Helper()
	text, e := find.Print(query)
	if want, wantE := printOf(query); text != want || e != wantE {
		t.Fatalf("P1904, P1905: Print(%.1100q): %.2000q, %v, want %.2000q, %v", query, text, e, want, wantE)
	}
	if e == api.OK && len(text) <= 1023 {
		if again, e := find.Print(text); again != text || e != api.OK {
			t.Fatalf("P1912: Print(%.1100q): %.2000q, %v", text, again, e)
		}
	}
	return text, e
}

// Every term is read, quoted or not, and printed.
func TestP1903Terms(t *testing.T) {
	for _, c := range []struct{ query, want string }{
		{"all", ""}, {"empty", ""}, {"sparse", ""}, {"kind file", ""}, {"kind dir", ""}, {"kind link", ""},
		{"size < 1", ""}, {"size <= 1", ""}, {"size = 1", ""}, {"size != 1", ""}, {"size >= 1", ""}, {"size > 1", ""}, {"owned < 1", ""}, {"links = 2", ""}, {"node != 3", ""}, {"depth > 4", ""},
		{"size = 0", ""}, {"size = 000", "size = 0"}, {"size = 007", "size = 7"}, {"size = 999999999", ""}, {"size = 000000001", "size = 1"}, {"size = 100", ""}, {"size = 010", "size = 10"},
		{"name a", `name "a"`}, {"path a", `path "a"`}, {"target a", `target "a"`}, {`name ""`, ""}, {`name "a b"`, ""}, {`name \"`, "no"}, {`name "\\*"`, ""}, {`name "[\x00-\xff]"`, ""}, {`name "\x61"`, `name "a"`}, {"name \xff", `name "\xff"`},
		{"under /", `under "/"`}, {"under /a/b", `under "/a/b"`}, {"under //a//b/.", `under "/a/b"`}, {"under /./.", `under "/"`}, {"under /a/..", `under "/a/.."`}, {`under "/a b"`, ""}, {"same /x/", `same "/x"`}, {"same /..", `same "/.."`},
		{"holds x", `holds "x"`}, {`holds ""`, ""}, {`begins "\x00\n\t\"\\"`, ""}, {"begins [", `begins "["`},
		{"holds (", `holds "("`}, {"holds )", `holds ")"`}, {"holds not", `holds "not"`}, {"name or", `name "or"`}, {"name and", `name "and"`}, {"holds holds", `holds "holds"`}, {"name name and name name", `name "name" and name "name"`}, {`holds "# x"`, ""}, {"holds a#b", `holds "a#b"`},
		{"not all", ""}, {"has all", ""}, {"not not all", ""}, {"has not has all", ""}, {"( all )", "all"}, {"all and empty", ""}, {"all or empty", ""}, {"all or empty and sparse", ""}, {"all and empty or sparse", ""}, {"all # and", "all"}, {"\tall\t or  empty ", "all or empty"},
		{`"all"`, "all"}, {`"not" "(" "all" ")"`, "not all"}, {`"size" "<" "1"`, "size < 1"}, {`"kind" "file" "and" "all"`, "kind file and all"}, {`"si\x7ae" > 1`, "size > 1"},
	} {
		got, e := prints(t, c.query)
		want := c.want
		if want == "" {
			want = c.query
		}
		if want == "no" {
			if e != api.ErrQuery {
				t.Errorf("P1903: Print(%q): %q, %v, want ErrQuery", c.query, got, e)
			}
		} else if got != want || e != api.OK {
			t.Errorf("P1903: Print(%q): %q, %v, want %q", c.query, got, e, want)
		}
	}
}

// What is no query.
func TestP1904None(t *testing.T) {
	for _, query := range []string{
		"", " ", "#", "# all", "x", "All", "ALL", "al", "alll", `""`, `"all`, `all"`, `al\l`, "all\n", "all\x00", "all all", "all empty", "all,", "(all)", "( all", "( all ) )", "all )", ")", "( )", "()", "(", "( ( all )",
		"not", "has", "not )", "not not", "not and", "and", "or", "and all", "or all", "all and", "all or", "all and and all", "all or or all", "all and or all", "all not all", "all ( all )", "( all ) all", "not all all", "all not", "all has",
		"kind", "kind folder", "kind File", "kind all", "kind file dir", `kind ""`, "kind (", "kind 1",
		"size", "size <", "size 1", "size < <", "size > -1", "size > +1", "size > 1234567890", "size > 0000000000", `size > ""`, "size > 1e3", "size > 0x1", "size > 1_0", "size > 1.0", "size > \xd9\xa1", "size >7", "size> 7", "size>7", "size == 7", "size <> 7", "size => 7", "size =< 7", "size ! 7", `size "" 7`, "size < 1 2", "size and 1", "size = all",
		"owned", "links <", "node 3", "depth = x", "number = 1", "name", "path", "target", "under", "same", "holds", "begins", "name a b", "path a b", "under / /", "holds a b", "name a name b", "contains x", "kind file and", "name a or", "size < 1 or",
	} {
		if got, e := prints(t, query); got != "" || e != api.ErrQuery {
			t.Errorf("P1904: Print(%q): %q, %v, want ErrQuery", query, got, e)
		}
	}
}

// The first word that is wrong decides.
func TestP1904First(t *testing.T) {
	long := strings.Repeat
	deep := long("not ", 16)
	for _, c := range []struct {
		query string
		want  api.Errno
	}{
		{"name [", api.ErrPattern}, {"name [ )", api.ErrPattern}, {"path [", api.ErrPattern}, {"target [", api.ErrPattern}, {"x name [", api.ErrQuery}, {"name a name [", api.ErrQuery}, {"all or name [ or", api.ErrPattern}, {"( name [", api.ErrPattern}, {"name [ or name " + long("x", 256), api.ErrPattern}, {"name " + long("x", 256) + " or name [", api.ErrLong}, {`name "\\"`, api.ErrPattern}, {`name "[b-a]"`, api.ErrPattern},
		{"name " + long("x", 255), api.OK}, {"name " + long("x", 256), api.ErrLong}, {"path " + long("[", 256), api.ErrLong}, {"target " + long("[", 255), api.ErrPattern}, {`name "` + long(`\x78`, 254) + `x"`, api.ErrLong}, {`name "` + long(`\\`, 254) + `"`, api.OK}, {`name "` + long(`\\`, 255) + `"`, api.ErrPattern}, {`name "` + long(`\\`, 256) + `"`, api.ErrLong},
		{"under d", api.ErrPath}, {`under ""`, api.ErrPath}, {"same d", api.ErrPath}, {`same ""`, api.ErrPath}, {"same d )", api.ErrPath}, {"under /" + long("x", 54), api.OK}, {"under /" + long("x", 55), api.ErrLong}, {`under "/a\x00"`, api.ErrName}, {`same "/a\x00/` + long("x", 55) + `"`, api.ErrName}, {"same /" + long("x", 55) + "/\x80", api.ErrLong}, {"under " + long("/x", 500), api.OK}, {"under ( or", api.ErrPath}, {"under d or name [", api.ErrPath}, {"name [ or under d", api.ErrPattern},
		{"holds " + long("x", 255), api.OK}, {"holds " + long("x", 256), api.ErrLong}, {"begins " + long("x", 255), api.OK}, {"begins " + long("x", 256), api.ErrLong}, {"begins " + long("x", 256) + " )", api.ErrLong}, {"holds [", api.OK}, {"all holds " + long("x", 256), api.ErrQuery},
		{deep + "all", api.OK}, {deep + "not", api.ErrDeep}, {deep + "not )", api.ErrDeep}, {deep + "not name [", api.ErrDeep}, {deep + "name [ not", api.ErrPattern}, {deep + "has", api.ErrDeep}, {deep + "(", api.ErrDeep}, {deep + ")", api.ErrQuery}, {deep + "all )", api.ErrQuery}, {deep + "and (", api.ErrQuery}, {deep, api.ErrQuery}, {"all " + deep + "not", api.ErrQuery}, {deep + "all not", api.ErrQuery},
		{long("x", 1024), api.ErrLong}, {long("x", 1023), api.ErrQuery}, {long(" ", 1024), api.ErrLong}, {"all" + long(" ", 1020), api.OK}, {"all" + long(" ", 1021), api.ErrLong}, {"all #" + long("x", 1018), api.OK}, {"all #" + long("x", 1019), api.ErrLong}, {`"` + long("x", 1023), api.ErrLong}, {long("x", 70000), api.ErrLong},
		{`name [ "`, api.ErrQuery}, {"under d \"", api.ErrQuery}, {deep + "not \"", api.ErrQuery}, {"name " + long("x", 256) + ` \`, api.ErrQuery},
	} {
		got, e := prints(t, c.query)
		if e != c.want || (got == "") != (e != api.OK) {
			t.Errorf("P1904: Print(%.60q): %.60q, %v, want %v", c.query, got, e, c.want)
		}
	}
}

// How many are open at a word: what was closed does not count, whatever opened it.
func TestP1904Deep(t *testing.T) {
	t.Parallel()
	d := trial.NewDice(1904)
	count := map[api.Errno]int{}
	for range 3000 {
		var words, closing []string
		for range 13 + d.Below(9) {
			word := trial.One(d, "not", "has", "(")
			if d.Below(5) == 0 { // something that is closed again
				words = append(words, "(", "(", "not", "all", ")", "and", "has", "all", ")", trial.One(d, "and", "or"))
			}
			words = append(words, word)
			if word == "(" {
				closing = append(closing, ")")
			}
			for word != "(" && d.Below(8) == 0 { // or closed by its unit
				words = append(words, "all", trial.One(d, "and", "or"), word)
			}
		}
		_, e := prints(t, strings.Join(slices.Concat(words, []string{"all"}, closing), " "))
		count[e]++
	}
	if count[api.OK] < 300 || count[api.ErrDeep] < 300 {
		t.Errorf("the draw is thin: %v", count)
	}
	for _, word := range []string{"not", "has", "("} {
		for _, inner := range []string{"not", "has", "("} {
			for n := range 18 {
				query := strings.Repeat(word+" ", n) + inner + " all"
				if inner == "(" {
					query += " )"
				}
				if word == "(" {
					query += strings.Repeat(" )", n)
				}
				want := api.OK
				if n >= 16 {
					want = api.ErrDeep
				}
				if _, e := prints(t, query); e != want {
					t.Errorf("P1904: %d of %s around %s: %v, want %v", n, word, inner, e, want)
				}
			}
		}
	}
	row := strings.TrimSuffix(strings.Repeat("not has all or ", 60), " or ")
	if got, e := prints(t, row); got != row || e != api.OK {
		t.Errorf("P1904: sixty of them side by side: %v", e)
	}
}

// Every row of a few words.
func TestP1904Every(t *testing.T) {
	t.Parallel()
	alphabet := []string{"all", "not", "has", "(", ")", "and", "or", "name", "[", "size", "<", "7", "under", "kind", "file", "holds"}
	count := map[api.Errno]int{}
	ask := func(words []string) {
		_, e := prints(t, strings.Join(words, " "))
		count[e]++
	}
	rows := [][]string{nil}
	for at := 0; at < len(rows); at++ {
		ask(rows[at])
		for _, word := range alphabet {
			if longer := append(slices.Clip(rows[at]), word); len(longer) < 5 {
				rows = append(rows, longer)
			} else {
				ask(longer) // to keep them all would be much
			}
		}
	}
	if count[api.OK] < 1000 || count[api.ErrPattern] < 1000 || count[api.ErrPath] < 1000 || count[api.ErrQuery] < 50000 {
		t.Errorf("%v are few", count)
	}
}

// Brackets stand where they must, and only there.
func TestP1905Brackets(t *testing.T) {
	for _, c := range []struct{ query, want string }{
		{"size  > 007 and ( ( all ) or empty )", "size > 7 and ( all or empty )"}, {"( all or empty ) or sparse", "all or empty or sparse"}, {"not ( all )", "not all"}, {"under /d/. or name a*", `under "/d" or name "a*"`},
		{"( ( ( all ) ) )", "all"}, {"( all and empty )", "all and empty"}, {"( all or empty )", "all or empty"}, {"all or ( empty or sparse )", "all or empty or sparse"}, {"all and ( empty and sparse )", "all and empty and sparse"}, {"( all and empty ) and sparse", "all and empty and sparse"},
		{"( all and empty ) or sparse", "all and empty or sparse"}, {"all or ( empty and sparse )", "all or empty and sparse"}, {"( all or empty ) and sparse", "( all or empty ) and sparse"}, {"all and ( empty or sparse )", "all and ( empty or sparse )"}, {"all and ( ( empty or sparse ) )", "all and ( empty or sparse )"}, {"all and ( ( empty ) or ( sparse ) )", "all and ( empty or sparse )"},
		{"all and ( empty and ( sparse or all ) )", "all and empty and ( sparse or all )"}, {"all and ( ( all or empty ) and sparse )", "all and ( all or empty ) and sparse"}, {"all or ( empty and ( sparse or all ) )", "all or empty and ( sparse or all )"}, {"( all or ( empty or ( sparse or all ) ) ) or empty", "all or empty or sparse or all or empty"}, {"( ( all or empty ) ) and ( ( sparse or all ) )", "( all or empty ) and ( sparse or all )"},
		{"not ( all and empty )", "not ( all and empty )"}, {"not ( all or empty )", "not ( all or empty )"}, {"has ( all and empty )", "has ( all and empty )"}, {"has ( all or empty )", "has ( all or empty )"}, {"not ( ( all or empty ) )", "not ( all or empty )"}, {"not ( not ( all ) )", "not not all"}, {"not ( has ( all or empty ) )", "not has ( all or empty )"}, {"has ( not all )", "has not all"}, {"( not all )", "not all"},
		{"not ( all ) and ( has ( empty ) )", "not all and has empty"}, {"( not ( all and empty ) ) or sparse", "not ( all and empty ) or sparse"}, {"not ( ( all and empty ) or sparse )", "not ( all and empty or sparse )"}, {"not ( ( all or empty ) and sparse )", "not ( ( all or empty ) and sparse )"}, {"has ( all ) or has ( empty )", "has all or has empty"}, {"( has all or has empty ) and ( not ( all ) )", "( has all or has empty ) and not all"},
	} {
		if got, e := prints(t, c.query); got != c.want || e != api.OK {
			t.Errorf("P1905: Print(%q): %q, %v, want %q", c.query, got, e, c.want)
		}
	}
}

// What is printed may have more bytes than a query may have; then it is no query.
func TestP1905Long(t *testing.T) {
	for _, query := range []string{"holds " + strings.Repeat("\xff", 255) + " or holds " + strings.Repeat("\xff", 255), "name " + strings.Repeat("\xff", 200) + " or under /" + strings.Repeat("\xff/", 200), strings.TrimSuffix(strings.Repeat("name a or ", 102), " or ")} {
		text, e := prints(t, query)
		if e != api.OK || len(text) <= 1023 {
			t.Errorf("P1905: Print(%.30q): %d bytes, %v", query, len(text), e)
		}
		if again, e := find.Print(text); again != "" || e != api.ErrLong {
			t.Errorf("P1904: Print of %d bytes: %v", len(text), e)
		}
	}
}

// Drawn queries, and such to which something was done.
func TestP1905Drawn(t *testing.T) {
	t.Parallel()
	d := asker{trial.NewDice(1905), []string{"/d", "/d/b", "/a b", "/\xff"}}
	count := map[api.Errno]int{}
	for range 20000 {
		words := d.words(1 + d.Below(9))
		for range d.Below(3) {
			words = d.spoilt(words)
		}
		query := d.written(words)
		if d.Below(5) == 0 {
			query = string(edited(d.Dice, []byte(query)))
		}
		_, e := prints(t, query)
		count[e]++
	}
	for _, e := range []api.Errno{api.OK, api.ErrQuery, api.ErrPattern, api.ErrPath, api.ErrLong} {
		if count[e] < 50 {
			t.Errorf("the draw is thin: %v", count)
		}
	}
}

// spoilt has one word more, or less, or another.
func (d asker) spoilt(words []string) []string {
	words = slices.Clone(words)
	i := d.Below(len(words))
	word := trial.One(d.Dice, "all", "not", "has", "(", ")", "and", "or", "name", "size", "<", "7", "[", "/a", "x", "under", strings.Repeat("x", 256), "", "file")
	switch d.Below(5) {
	case 4: // what stands behind the word of a term
		for i < len(words)-1 && len(termsOf()[words[i]]) != 1 {
			i++
		}
		if i < len(words)-1 {
			words[i+1] = trial.One(d.Dice, "[", "a\\", strings.Repeat("x", 256), "d", "/"+strings.Repeat("x", 55), "")
		}
	case 0:
		return slices.Insert(words, i, word)
	case 1:
		if len(words) > 1 {
			return slices.Delete(words, i, i+1)
		}
	case 2:
		j := d.Below(len(words))
		words[i], words[j] = words[j], words[i]
	default:
		words[i] = word
	}
	return words
}

// edited has one byte more, or less, or another.
func edited(d *trial.Dice, text []byte) []byte {
	i, b := d.Below(len(text)), trial.One(d, ' ', '"', '\\', '(', ')', '#', '/', '*', '[', byte(d.Below(256)))
	switch d.Below(3) {
	case 0:
		return slices.Insert(slices.Clone(text), i, b)
	case 1:
		return slices.Delete(slices.Clone(text), i, i+1)
	}
	text[i] = b
	return text
}

// Whether a word was quoted makes no difference.
func TestP1903Quoted(t *testing.T) {
	d := asker{trial.NewDice(1903), []string{"/d", "/d/b"}}
	for range 2000 {
		query := d.query()
		words, _ := shell.Words(query)
		quoted := plain(words...)
		if len(quoted) > 1023 {
			continue
		}
		a, e := prints(t, query)
		if b, e2 := prints(t, quoted); a != b || e != e2 {
			t.Fatalf("P1903: Print(%q): %q, %v; Print(%q): %q, %v", query, a, e, quoted, b, e2)
		}
	}
}

// P1: whatever plain data it is given.
func TestP1Print(t *testing.T) {
	t.Parallel()
	d := trial.NewDice(191)
	for range 20000 {
		prints(t, string(d.Bytes(d.Below(20))))
	}
	for _, query := range []string{strings.Repeat("( ", 511), strings.Repeat("not ", 255), strings.Repeat(") ", 511), strings.Repeat("all and ", 127) + "all", strings.Repeat("has ( ", 8) + "all" + strings.Repeat(" )", 8), strings.Repeat("\x00", 1023)} {
		prints(t, query)
	}
}
