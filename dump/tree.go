package dump

import (
	"cmp"

	"vellum/api"
	"vellum/fs"
	"vellum/rows"
)

const slash = "/"

// name is the first name of a file.
type name struct {
	path string
}

// tree tells the items of a mounted file system.
type tree struct {
	fs      *fs.FS
	files   map[int]name // by node: those that were told
	refused api.Errno    // why it could not go on
}

// items tells them in the order of paths: what lies in a directory comes right behind it.
func (t *tree) items(yield func(api.Item) bool) { t.below("", yield) }

// below tells what lies in a directory, and below that; it says whether more is wanted, and can be told.
func (t *tree) below(dir string, yield func(api.Item) bool) bool {
	for _, entry := range t.do(api.Op{Kind: api.OpList, Path: cmp.Or(dir, slash)}).Entries {
		if !t.tell(dir+slash+entry.Name, entry, yield) {
			return false
		}
	}
	return t.refused == api.OK
}

// tell tells a name, and what lies below it.
func (t *tree) tell(path string, entry api.Entry, yield func(api.Item) bool) bool {
	if len(path) > api.MaxPath {
		t.refused = api.ErrLong // no operation takes it
		return false
	}
	item := t.item(path, entry)
	if t.refused != api.OK || !yield(item) {
		return false
	}
	return entry.Kind != api.KDir || t.below(path, yield)
}

func (t *tree) item(path string, entry api.Entry) api.Item {
	switch entry.Kind {
	case api.KDir:
		return api.Item{Kind: api.KDir, Path: path}
	case api.KLink:
		return api.Item{Kind: api.KLink, Path: path, Target: t.do(api.Op{Kind: api.OpReadlink, Path: path}).Text}
	}
	if first, told := t.files[entry.Node]; told {
		return api.Item{Kind: api.KName, Path: path, Target: first.path}
	}
	t.files[entry.Node] = name{path}
	return t.file(path)
}

// file holds the file as long as it asks for it: so the way to it, which may be long, is gone once and not with each piece.
func (t *tree) file(path string) api.Item {
	item := api.Item{Kind: api.KFile, Path: path}
	node, e := t.fs.Hold(path)
	if e != api.OK {
		t.refused = e
		return item
	}
	defer t.fs.Release(node)
	item.Size = t.do(api.Op{Kind: api.OpStat, Node: node}).Stat.Size
	item.Runs, item.Data = rows.Read(api.Op{Node: node}, t.do)
	return item
}

// do keeps why it was refused, the first time.
func (t *tree) do(op api.Op) api.Reply {
	reply := t.fs.Do(op)
	t.refused = cmp.Or(t.refused, reply.Err)
	return reply
}
