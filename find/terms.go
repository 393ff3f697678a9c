package find

import (
	"slices"
	"strings"

	"vellum/api"
	"vellum/rows"
)

// term is a query, or a part of one.
type term interface {
	at(x found) bool // says whether it holds there
}

type (
	all    struct{}
	empty  struct{}
	sparse struct{}
	ofKind struct {
		word string
	}
	compared struct {
		field, sign string
		number      int
	}
	nameLike   struct{ pattern pattern }
	pathLike   struct{ pattern pattern }
	targetLike struct{ pattern pattern }
	under      struct{ path string }
	sameAs     struct{ path string }
	holding    struct{ bytes string }
	beginning  struct{ bytes string }
	not        struct{ unit term }
	has        struct{ unit term }
	and        struct{ units []term }
	or         struct{ ands []term }
)

func (all) at(found) bool { return true }

func (empty) at(x found) bool {
	switch x.stat.Kind {
	case api.KFile:
		return x.stat.Size == 0
	case api.KDir:
		return len(x.entries()) == 0
	}
	return false
}

func (sparse) at(x found) bool {
	indexes := (x.stat.Size + api.Size - 1) / api.Size
	return x.stat.Kind == api.KFile && rows.Count(x.ask(api.OpRuns).Runs) < indexes
}

func (t ofKind) at(x found) bool {
	switch t.word {
	case "file":
		return x.stat.Kind == api.KFile
	case "dir":
		return x.stat.Kind == api.KDir
	}
	return x.stat.Kind == api.KLink
}

func (t compared) at(x found) bool {
	n := t.fieldOf(x)
	switch t.sign {
	case "<":
		return n < t.number
	case "<=":
		return n <= t.number
	case "=":
		return n == t.number
	case "!=":
		return n != t.number
	case ">=":
		return n >= t.number
	}
	return n > t.number
}

func (t compared) fieldOf(x found) int {
	switch t.field {
	case "size":
		return x.stat.Size
	case "owned":
		return x.stat.Owned
	case "links":
		return x.stat.Links
	case "node":
		return x.stat.Node
	}
	return x.depth
}

func (t nameLike) at(x found) bool { return t.pattern.fits(x.name()) }

func (t pathLike) at(x found) bool { return t.pattern.fits(x.text) }

func (t targetLike) at(x found) bool {
	return x.stat.Kind == api.KLink && t.pattern.fits(x.ask(api.OpReadlink).Text)
}

func (t under) at(x found) bool {
	return t.path == slash || x.text == t.path || strings.HasPrefix(x.text, t.path+slash)
}

// at asks anew at each find where the path leads: between two of them that may change.
func (t sameAs) at(x found) bool {
	reply := x.fs.Do(api.Op{Kind: api.OpStat, Path: t.path})
	return reply.Err == api.OK && reply.Stat.Node == x.stat.Node
}

func (t holding) at(x found) bool {
	text, is := x.content(api.MaxLook)
	return is && strings.Contains(text, t.bytes)
}

func (t beginning) at(x found) bool {
	text, is := x.content(len(t.bytes))
	return is && strings.HasPrefix(text, t.bytes)
}

func (t not) at(x found) bool { return !t.unit.at(x) }

func (t has) at(x found) bool {
	for next := range x.below() {
		if t.unit.at(next) {
			return true
		}
	}
	return false
}

func (t and) at(x found) bool {
	return !slices.ContainsFunc(t.units, func(unit term) bool { return !unit.at(x) })
}

func (t or) at(x found) bool {
	return slices.ContainsFunc(t.ands, func(part term) bool { return part.at(x) })
}
