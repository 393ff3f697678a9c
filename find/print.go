package find

import (
	"strconv"
	"strings"

	"vellum/shell"
)

// printed is a term in its one form. An or within an or needs no brackets, nor does an and within an and: their parts come into the row of the outer one.
func printed(t term) string {
	switch t := t.(type) {
	case all:
		return "all"
	case empty:
		return "empty"
	case sparse:
		return "sparse"
	case ofKind:
		return spaced("kind", t.word)
	case compared:
		return spaced(t.field, t.sign, strconv.Itoa(t.number))
	case nameLike:
		return spaced("name", quoted(t.pattern.text))
	case pathLike:
		return spaced("path", quoted(t.pattern.text))
	case targetLike:
		return spaced("target", quoted(t.pattern.text))
	case under:
		return spaced("under", quoted(t.path))
	case sameAs:
		return spaced("same", quoted(t.path))
	case holding:
		return spaced("holds", quoted(t.bytes))
	case beginning:
		return spaced("begins", quoted(t.bytes))
	case not:
		return spaced("not", asUnit(t.unit))
	case has:
		return spaced("has", asUnit(t.unit))
	case and:
		return joined(t.units, "and", asFactor)
	case or:
		return joined(t.ands, "or", printed)
	}
	return ""
}

// asUnit is a term as it stands behind not and has.
func asUnit(t term) string {
	switch t.(type) {
	case and, or:
		return bracketed(t)
	}
	return printed(t)
}

// asFactor is a term as it stands in an and.
func asFactor(t term) string {
	switch t.(type) {
	case or:
		return bracketed(t)
	}
	return printed(t)
}

func bracketed(t term) string { return spaced("(", printed(t), ")") }

func joined(terms []term, word string, print func(term) string) string {
	var texts []string
	for _, t := range terms {
		texts = append(texts, print(t))
	}
	return strings.Join(texts, " "+word+" ")
}

func spaced(words ...string) string { return strings.Join(words, " ") }

func quoted(text string) string { return shell.Quote([]byte(text)) }
