package find

import (
	"iter"
	"strings"

	"vellum/api"
	"vellum/fs"
	"vellum/halt"
	"vellum/walk"
)

const slash = "/"

// textOf is how a path of these parts is told.
func textOf(parts []string) string { return slash + strings.Join(parts, slash) }

// search is a query that is asked of a tree, from one path down. It keeps nothing of what it has found: it can be gone through again, also while it is being gone through.
type search struct {
	fs    *fs.FS
	from  string
	query term
}

// searchOf is what a call asks for; it gives up where it can't be asked.
func searchOf(f *fs.FS, path, query string) search {
	_, _, e := f.Space()
	halt.If(e == api.ErrDead, e)
	s := search{f, textOf(halt.Got(walk.Split(path))), readQuery(query)}
	halt.Got(s.start())
	return s
}

func (s search) start() (found, api.Errno) {
	reply := s.fs.Do(api.Op{Kind: api.OpStat, Path: s.from})
	return found{s.fs, s.from, 0, reply.Stat}, reply.Err
}

// finds tells where the query holds. A directory is asked what lies in it only behind its telling: whoever is told may change that.
func (s search) finds(yield func(found) bool) {
	var down func(found) bool // says whether more is wanted
	down = func(x found) bool {
		if s.query.at(x) && !yield(x) {
			return false
		}
		for next := range x.below() {
			if !down(next) {
				return false
			}
		}
		return true
	}
	if start, e := s.start(); e == api.OK {
		down(start)
	}
}

// found is a name of the tree, and what is told of its node. All else is asked when a term wants to know it.
type found struct {
	fs    *fs.FS
	text  string
	depth int
	stat  api.Stat
}

func (x found) ask(kind int) api.Reply { return x.fs.Do(api.Op{Kind: kind, Path: x.text}) }

func (x found) entries() []api.Entry { return x.ask(api.OpList).Entries }

// below tells the finds of a directory's own entries, and asks for each when its turn comes: it may be gone by then.
func (x found) below() iter.Seq[found] {
	return func(yield func(found) bool) {
		if x.stat.Kind != api.KDir {
			return
		}
		for _, entry := range x.entries() {
			next := found{fs: x.fs, text: x.textOf(entry), depth: x.depth + 1}
			reply := next.ask(api.OpLstat)
			if reply.Err == api.ErrDead {
				return
			}
			next.stat = reply.Stat
			if reply.Err == api.OK && !yield(next) {
				return
			}
		}
	}
}

// textOf is the path of an entry. One that is too long no operation takes.
func (x found) textOf(entry api.Entry) string {
	return strings.TrimSuffix(x.text, slash) + slash + entry.Name
}

// name is the last part of the path.
func (x found) name() string { return x.text[strings.LastIndex(x.text, slash)+1:] }

// content is the first bytes, n at most, of a file, or the text of a link; of a directory there is none.
func (x found) content(n int) (text string, is bool) {
	switch x.stat.Kind {
	case api.KFile:
		return string(x.fs.Do(api.Op{Kind: api.OpRead, Path: x.text, N: n}).Data), true
	case api.KLink:
		return x.ask(api.OpReadlink).Text, true
	}
	return "", false
}
