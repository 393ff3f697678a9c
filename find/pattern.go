package find

import (
	"vellum/api"
	"vellum/halt"
)

// pattern is a row of pieces, and the text of which they were read.
type pattern struct {
	text   string
	pieces []piece
}

// piece is a piece of a pattern: which bytes it takes, and whether any number of them or just one.
type piece struct {
	members []member
	others  bool // it takes the bytes that no member has, and not those that one has
	slash   bool // it may take a slash
	many    bool
}

// member has the bytes from the first to the last.
type member struct {
	first, last byte
}

func only(b byte) piece { return piece{members: []member{{b, b}}, slash: true} }

func (p piece) takes(b byte) bool {
	if b == '/' && !p.slash {
		return false
	}
	for _, m := range p.members {
		if m.first <= b && b <= m.last {
			return !p.others
		}
	}
	return p.others
}

// fits says whether a text is of the pattern. It is gone through once, and kept of how many pieces, from the first on, what was gone through is the texts: so a star needs no trying.
func (p pattern) fits(text string) bool {
	reached := make([]bool, len(p.pieces)+1)
	reached[0] = true
	p.passOver(reached)
	for _, b := range []byte(text) {
		p.take(reached, b)
		p.passOver(reached)
	}
	return reached[len(p.pieces)]
}

// take goes on by one byte. From the last piece down: what is asked of the byte before is not overwritten yet.
func (p pattern) take(reached []bool, b byte) {
	for i := len(p.pieces) - 1; i >= 0; i-- {
		from := i
		if p.pieces[i].many {
			from = i + 1
		}
		reached[i+1] = reached[from] && p.pieces[i].takes(b)
	}
	reached[0] = false
}

// passOver lets those pieces take nothing that need not take a byte.
func (p pattern) passOver(reached []bool) {
	for i, piece := range p.pieces {
		if piece.many && reached[i] {
			reached[i+1] = true
		}
	}
}

// patternReader reads a pattern byte by byte.
type patternReader struct {
	row[byte]
}

func readPattern(text string) pattern {
	halt.If(len(text) > api.MaxPattern, api.ErrLong)
	r := patternReader{row[byte]{[]byte(text), api.ErrPattern}}
	p := pattern{text: text}
	for !r.ended() {
		p.pieces = append(p.pieces, r.piece())
	}
	return p
}

func (r *patternReader) piece() piece {
	switch b := r.next(); b {
	case '\\':
		return only(r.next())
	case '?':
		return piece{others: true}
	case '*':
		return r.stars()
	case '[':
		return r.set()
	default:
		return only(b)
	}
}

// stars reads a row of stars, of which the first is read.
func (r *patternReader) stars() piece {
	p := piece{others: true, many: true}
	for r.took('*') {
		p.slash = true
	}
	return p
}

// set reads a set, of which the bracket is read.
func (r *patternReader) set() piece {
	p := piece{others: r.took('!')}
	for more := true; more; more = !r.took(']') {
		p.members = append(p.members, r.member())
	}
	return p
}

func (r *patternReader) member() member {
	first := r.unit()
	last := first
	if r.took('-') {
		last = r.unit()
	}
	halt.If(first > last, api.ErrPattern)
	return member{first, last}
}

func (r *patternReader) unit() byte {
	b := r.next()
	if b == '\\' {
		return r.next()
	}
	halt.If(b == ']' || b == '-', api.ErrPattern)
	return b
}
