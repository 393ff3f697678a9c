package fs

import "vellum/api"

// operation is what is done for one kind of them. It looks at its arguments first, then at the tree, and then it changes that.
type operation struct {
	name string
	do   func(*step, api.Op) api.Reply
}

// operationOf is the operation of that kind. In the place of kind 0 stands what is done for a kind that is none.
func operationOf(kind int) operation {
	table := [...]operation{
		{"operation", (*step).none},
		api.OpCreate:   {"create", (*step).create},
		api.OpMkdir:    {"mkdir", (*step).mkdir},
		api.OpSymlink:  {"symlink", (*step).symlink},
		api.OpLink:     {"link", (*step).link},
		api.OpUnlink:   {"unlink", (*step).unlink},
		api.OpRmdir:    {"rmdir", (*step).rmdir},
		api.OpRename:   {"rename", (*step).rename},
		api.OpRead:     {"read", (*step).read},
		api.OpWrite:    {"write", (*step).write},
		api.OpTruncate: {"truncate", (*step).truncate},
		api.OpPunch:    {"punch", (*step).punch},
		api.OpStat:     {"stat", (*step).stat},
		api.OpLstat:    {"lstat", (*step).lstat},
		api.OpList:     {"list", (*step).list},
		api.OpReadlink: {"readlink", (*step).readlink},
		api.OpRuns:     {"runs", (*step).runs},
	}
	if kind < 0 || kind >= len(table) {
		kind = 0
	}
	return table[kind]
}

func (s *step) none(api.Op) api.Reply {
	s.must(api.ErrOp)
	return api.Reply{}
}
