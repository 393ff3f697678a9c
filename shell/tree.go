package shell

import (
	"cmp"
	"strconv"
	"strings"

	"vellum/api"
	"vellum/codec"
	"vellum/fs"
	"vellum/rows"
)

const (
	slash   = "/"
	without = "-" // stands where a content has nothing to tell
)

func (s *session) tree(arguments) string {
	t := tree{fs: s.fs, files: map[int]content{}}
	t.tell("", 0)
	return answered(t.refused, t.words...)
}

// content is the word that tells what a node holds.
type content struct {
	word string
}

// tree tells the words of a whole tree.
type tree struct {
	fs      *fs.FS
	words   []string
	files   map[int]content // by node: a file of many names is read once
	refused api.Errno       // by which it could not go on
}

// tell tells what lies at a path, and all that lies below it. The root's path is empty here, so that every name comes behind a slash.
func (t *tree) tell(path string, slot int) {
	at := cmp.Or(path, slash)
	stat := t.do(api.Op{Kind: api.OpLstat, Path: at}).Stat
	t.words = append(t.words, Quote([]byte(at)))
	t.words = append(t.words, statWords(stat)...)
	t.words = append(t.words, strconv.Itoa(slot), t.contentOf(at, stat).word)
	if stat.Kind == api.KDir {
		for _, entry := range t.do(api.Op{Kind: api.OpList, Path: at}).Entries {
			t.tell(path+slash+entry.Name, entry.Slot)
		}
	}
}

func (t *tree) contentOf(path string, stat api.Stat) content {
	switch stat.Kind {
	case api.KLink:
		return content{Quote([]byte(t.do(api.Op{Kind: api.OpReadlink, Path: path}).Text))}
	case api.KFile:
		if _, read := t.files[stat.Node]; !read {
			t.files[stat.Node] = t.file(path)
		}
		return t.files[stat.Node]
	}
	return content{without}
}

func (t *tree) file(path string) content {
	runs, data := rows.Read(api.Op{Path: path}, t.do)
	row := cmp.Or(strings.Join(runWords(runs), ","), without)
	return content{row + ":" + strconv.Itoa(codec.Sum(data))}
}

// do does an operation, unless one was refused before: then there is nothing more to tell.
func (t *tree) do(op api.Op) api.Reply {
	if t.refused != api.OK {
		return api.Reply{}
	}
	reply := t.fs.Do(op)
	t.refused = reply.Err
	return reply
}
