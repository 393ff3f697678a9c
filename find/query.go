package find

import (
	"slices"
	"strconv"
	"strings"

	"vellum/api"
	"vellum/halt"
	"vellum/shell"
	"vellum/walk"
)

const (
	digits    = "0123456789"
	maxDigits = 9 // of a number
)

// queryReader reads a query word by word.
type queryReader struct {
	row[string]
	open int // how many not, has and brackets are open
}

func readQuery(text string) term {
	halt.If(len(text) > api.MaxQuery, api.ErrLong)
	words, e := shell.Words(text)
	halt.If(e != api.OK, api.ErrQuery)
	r := queryReader{row: row[string]{words, api.ErrQuery}}
	query := r.or()
	halt.If(!r.ended(), api.ErrQuery)
	return query
}

// or is the and itself if there is but one, and so with and: what is left of both is of two or more.
func (r *queryReader) or() term {
	ands := []term{r.and()}
	for r.took("or") {
		ands = append(ands, r.and())
	}
	if len(ands) == 1 {
		return ands[0]
	}
	return or{ands}
}

func (r *queryReader) and() term {
	units := []term{r.unit()}
	for r.took("and") {
		units = append(units, r.unit())
	}
	if len(units) == 1 {
		return units[0]
	}
	return and{units}
}

func (r *queryReader) unit() term {
	switch word := r.next(); word {
	case "not":
		return not{r.within(r.unit)}
	case "has":
		return has{r.within(r.unit)}
	case "(":
		return r.within(r.bracketed)
	default:
		return r.term(word)
	}
}

// within reads what stands behind a word that opens.
func (r *queryReader) within(read func() term) term {
	halt.If(r.open == api.MaxDeep, api.ErrDeep)
	r.open++
	t := read()
	r.open--
	return t
}

// bracketed reads what stands in brackets, of which the first is read. The brackets themselves are not kept: Print sets those that are needed.
func (r *queryReader) bracketed() term {
	t := r.or()
	halt.If(!r.took(")"), api.ErrQuery)
	return t
}

// term reads a term, of which the first word is read.
func (r *queryReader) term(word string) term {
	switch word {
	case "all":
		return all{}
	case "empty":
		return empty{}
	case "sparse":
		return sparse{}
	case "kind":
		return ofKind{r.oneOf("file", "dir", "link")}
	case "size", "owned", "links", "node", "depth":
		return compared{word, r.oneOf("<", "<=", "=", "!=", ">=", ">"), r.number()}
	case "name":
		return nameLike{readPattern(r.next())}
	case "path":
		return pathLike{readPattern(r.next())}
	case "target":
		return targetLike{readPattern(r.next())}
	case "under":
		return under{r.path()}
	case "same":
		return sameAs{r.path()}
	case "holds":
		return holding{r.bytes()}
	case "begins":
		return beginning{r.bytes()}
	}
	panic(api.ErrQuery)
}

func (r *queryReader) oneOf(words ...string) string {
	word := r.next()
	halt.If(!slices.Contains(words, word), api.ErrQuery)
	return word
}

func (r *queryReader) number() int {
	word := r.next()
	halt.If(word == "" || len(word) > maxDigits || strings.Trim(word, digits) != "", api.ErrQuery)
	n, _ := strconv.Atoi(word)
	return n
}

// path is told by its parts, however it was written.
func (r *queryReader) path() string { return textOf(halt.Got(walk.Split(r.next()))) }

func (r *queryReader) bytes() string {
	word := r.next()
	halt.If(len(word) > api.MaxPattern, api.ErrLong)
	return word
}
