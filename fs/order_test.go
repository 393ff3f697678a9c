package fs_test

import (
	"math"
	"slices"
	"strings"
	"testing"

	"vellum/api"
)

// planted is a small tree: /a and /d/b are files, /l leads to /d/b, /up to /d, /gone to what is not there, /self to itself.
func planted(t *testing.T) *pair {
	t.Helper()
	p := paired(t, api.Super{Sectors: 100, Log: 18, Nodes: 16})
	p.all(create("/a"), write("/a", 0, "text"), mkdir("/d"), create("/d/b"), symlink("/l", "d/b"), symlink("/up", "d"), symlink("/gone", "/d/none"), symlink("/self", "self"), mkdir("/e"))
	return p
}

func TestP1304Kinds(t *testing.T) {
	p := planted(t)
	for _, kind := range []int{0, 17, 18, 255, 256, -1, -16, math.MaxInt, math.MinInt, 1 << 32, 1<<32 + 1} {
		for _, op := range []api.Op{{}, {Path: "/a", Other: "/x"}, {Node: 1, Off: -1, N: -1}, {Path: "\x00"}} {
			op.Kind = kind
			p.does(op, api.ErrOp)
		}
	}
	p.tree()
}

// usual is an operation of each kind that is done, and the fields that it has.
func usual() []struct {
	op     api.Op
	fields string
} {
	return []struct {
		op     api.Op
		fields string
	}{
		{create("/n"), "path"}, {mkdir("/n"), "path"}, {symlink("/n", "x"), "path other"}, {link("/a", "/n"), "path other"}, {unlink("/a"), "path"}, {rmdir("/e"), "path"}, {rename("/a", "/n"), "path other"},
		{read("/a", 1, 2), "path off n"}, {write("/a", 1, "new"), "path off data"}, {truncate("/a", 9), "path n"}, {punch("/a", 1, 2), "path off n"}, {stat("/a"), "path"}, {lstat("/l"), "path"}, {list("/"), "path"}, {readlink("/l"), "path"}, {runs("/a"), "path"},
		{by(2, read("", 1, 2)), "node off n"}, {by(2, write("", 1, "new")), "node off data"}, {by(2, truncate("", 9)), "node n"}, {by(2, punch("", 1, 2)), "node off n"}, {by(2, stat("")), "node"}, {by(2, runs("")), "node"},
	}
}

// What an operation does not name is not looked at.
func TestP1304Fields(t *testing.T) {
	for _, c := range usual() {
		p, q := planted(t), planted(t)
		p.hold("/a", api.OK)
		q.hold("/a", api.OK)
		op := c.op
		has := func(field string) bool { return slices.Contains(strings.Fields(c.fields), field) }
		if !has("path") {
			op.Path = "\x00"
		}
		if !has("other") {
			op.Other = strings.Repeat("o", 2000)
		}
		if !has("node") { // of those that could have one, the ones that have a path alone say no node
			op.Node = -7
			if op.Kind < api.OpRead || op.Kind > api.OpStat && op.Kind < api.OpRuns {
				op.Node = 77
			}
		}
		if !has("off") {
			op.Off = -5
		}
		if !has("n") {
			op.N = -5
		}
		if !has("data") {
			op.Data = make([]byte, 70000)
		}
		if got, want := p.f.Do(op), q.f.Do(c.op); !same(got, want) || got.Err != api.OK {
			t.Errorf("P1304: %s: %s, want %s", says(op), says(got), says(want))
		}
		if treeOf(p.f.Do) != treeOf(q.f.Do) {
			t.Errorf("P1304: %s: another tree", says(op))
		}
	}
}

// An operation's reply has what it tells and nothing else.
func TestP1304Replies(t *testing.T) {
	for _, c := range usual() {
		p := planted(t)
		p.hold("/a", api.OK)
		r := p.does(c.op, api.OK)
		tells := map[string]bool{"n": r.N != 0, "data": r.Data != nil, "stat": r.Stat != api.Stat{}, "entries": r.Entries != nil, "runs": r.Runs != nil, "text": r.Text != ""}
		want := map[int]string{api.OpRead: "n data", api.OpWrite: "n", api.OpStat: "stat", api.OpLstat: "stat", api.OpList: "n entries", api.OpReadlink: "n text", api.OpRuns: "n runs"}[c.op.Kind]
		for what, told := range tells {
			if told != slices.Contains(strings.Fields(want), what) {
				t.Errorf("P1304: %s: %s", says(c.op), says(r))
			}
		}
	}
}

// The arguments come ahead of all that the disk holds, from left to right.
func TestP1306Order(t *testing.T) {
	p := planted(t)
	p.hold("/a", api.OK)
	long, none, name := strings.Repeat("/x", 512), "x", "/"+strings.Repeat("y", 55)
	for _, make := range []func(path string) api.Op{create, mkdir, unlink, rmdir} {
		p.answers([]answer{{make(long), api.ErrLong}, {make(none), api.ErrPath}, {make(""), api.ErrPath}, {make(name), api.ErrLong}, {make("/a/\x00"), api.ErrName}, {make("/"), api.ErrPath}, {make("/."), api.ErrPath}, {make("//"), api.ErrPath}, {make("/.."), api.ErrPath}, {make("/none/.."), api.ErrPath}, {make("/a/../."), api.ErrPath}, {make("/self/../x" + "\x00"), api.ErrName}})
	}
	for _, make := range []func(path, other string) api.Op{rename, link, symlink} {
		p.answers([]answer{{make(long, none), api.ErrLong}, {make(none, name), api.ErrPath}, {make(name, ""), api.ErrLong}, {make("/a\x00", ""), api.ErrName}})
	}
	for _, other := range []answer{{create(long), api.ErrLong}, {create(none), api.ErrPath}, {create(""), api.ErrPath}, {create(name), api.ErrLong}, {create("/b\x00"), api.ErrName}, {create("/"), api.ErrPath}, {create("/a/.."), api.ErrPath}} {
		for _, path := range []string{"/a", "/none", "/none/x", "/self/x", "/a/x", "/d"} {
			p.does(rename(path, other.op.Path), other.want)
			p.does(link(path, other.op.Path), other.want)
		}
	}
	p.answers([]answer{
		{rename("/", "/x\x00"), api.ErrPath}, {rename("/a/..", long), api.ErrPath}, {rename("/d/../a", "/"), api.ErrPath},
		{link("/", "/"), api.ErrPath}, {link("/", "/x"), api.ErrIsDir}, {link("/d/..", "/x"), api.ErrIsDir}, {link("/none", "/.."), api.ErrPath},
		{symlink("/", ""), api.ErrPath}, {symlink("/..", strings.Repeat("t", 256)), api.ErrPath},
		{symlink("/none/x", ""), api.ErrPath}, {symlink("/a", "x\x00"), api.ErrPath}, {symlink("/a", "\x00"), api.ErrPath}, {symlink("/a", strings.Repeat("t", 256)), api.ErrLong}, {symlink("/a", strings.Repeat("t", 255)+"\x00"), api.ErrPath}, {symlink("/a", strings.Repeat("t", 255)), api.ErrExists}, {symlink("/none/x", "x"), api.ErrNotFound},
	})
	for _, path := range []string{"/a", "/none", "/d", "/self", "/a/x"} {
		p.answers([]answer{
			{read(path, -1, -1), api.ErrArg}, {read(path, -1, 65537), api.ErrArg}, {read(path, 0, -1), api.ErrArg}, {read(path, 0, 65537), api.ErrLong}, {read(path, math.MaxInt, math.MaxInt), api.ErrLong}, {read(path, math.MinInt, 0), api.ErrArg},
			{write(path, -1, strings.Repeat("x", 65537)), api.ErrArg}, {write(path, api.MaxFile, strings.Repeat("x", 65537)), api.ErrLong}, {write(path, api.MaxFile, "x"), api.ErrBig}, {write(path, api.MaxFile+1, ""), api.ErrBig}, {write(path, math.MaxInt, "x"), api.ErrBig}, {write(path, api.MaxFile-65535, strings.Repeat("x", 65536)), api.ErrBig}, {write(path, -1, ""), api.ErrArg},
			{truncate(path, -1), api.ErrArg}, {truncate(path, api.MaxFile+1), api.ErrBig}, {truncate(path, math.MaxInt), api.ErrBig}, {truncate(path, math.MinInt), api.ErrArg},
			{punch(path, -1, -1), api.ErrArg}, {punch(path, 0, -1), api.ErrArg}, {punch(path, -1, 0), api.ErrArg}, {punch(path, math.MaxInt, math.MinInt), api.ErrArg},
		})
	}
	for _, path := range []answer{{create(long), api.ErrLong}, {create(none), api.ErrPath}, {create(name), api.ErrLong}, {create("/b\x00"), api.ErrName}} {
		at := path.op.Path
		for _, op := range []api.Op{read(at, -1, -1), write(at, -1, "x"), truncate(at, -1), punch(at, -1, -1), stat(at), lstat(at), list(at), readlink(at), runs(at)} {
			p.does(op, path.want)
		}
	}
	p.tree()
}

// A held node is asked for behind the arguments, and a path in its stead is not looked at.
func TestP1305Order(t *testing.T) {
	p := planted(t)
	k := p.hold("/a", api.OK)
	for _, node := range []int{1, 3, 4, 16, 17, 1 << 40, math.MaxInt} { // the root, a directory, a file that is not held, none
		p.answers([]answer{
			{by(node, read("", -1, 0)), api.ErrArg}, {by(node, read("", 0, 65537)), api.ErrLong}, {by(node, read("", 0, 0)), api.ErrNotHeld},
			{by(node, write("", -1, "")), api.ErrArg}, {by(node, write("", 0, strings.Repeat("x", 65537))), api.ErrLong}, {by(node, write("", api.MaxFile, "x")), api.ErrBig}, {by(node, write("", 0, "")), api.ErrNotHeld}, {by(node, write("", 0, "x")), api.ErrNotHeld},
			{by(node, truncate("", -1)), api.ErrArg}, {by(node, truncate("", api.MaxFile+1)), api.ErrBig}, {by(node, truncate("", 0)), api.ErrNotHeld},
			{by(node, punch("", 0, -1)), api.ErrArg}, {by(node, punch("", 0, 0)), api.ErrNotHeld}, {by(node, stat("")), api.ErrNotHeld}, {by(node, runs("")), api.ErrNotHeld},
		})
	}
	p.answers([]answer{{by(k, read("", 0, 9)), api.OK}, {by(k, read("", 0, 65537)), api.ErrLong}, {by(k, write("", 4, " and more")), api.OK}, {by(k, truncate("", 6)), api.OK}, {by(k, punch("", 1, 2)), api.OK}, {by(k, stat("")), api.OK}, {by(k, runs("")), api.OK}})
	for _, node := range []int{0, -1, math.MinInt} { // no node: the path counts
		for _, op := range []api.Op{read("/none", 0, 9), stat("/none"), truncate("/none", 0)} {
			op.Node = node
			p.does(op, api.ErrNotFound)
		}
		op := stat("/l")
		op.Node = node
		p.does(op, api.OK)
	}
	p.tree()
}

// Where the path leads, links are followed or not, as the operation says.
func TestP1305Places(t *testing.T) {
	p := planted(t)
	for _, make := range []func(path string) api.Op{
		stat, runs,
		func(path string) api.Op { return read(path, 0, 9) },
		func(path string) api.Op { return write(path, 0, "new") },
		func(path string) api.Op { return write(path, 0, "") },
		func(path string) api.Op { return truncate(path, 7) },
		func(path string) api.Op { return punch(path, 0, 1) },
	} {
		isDir := api.ErrIsDir
		if make("").Kind == api.OpStat {
			isDir = api.OK
		}
		p.answers([]answer{{make("/a"), api.OK}, {make("/l"), api.OK}, {make("/up/b/"), api.OK}, {make("/d/../l/."), api.OK}, {make("/up"), isDir}, {make("/"), isDir}, {make("/up/.."), isDir}, {make("/gone"), api.ErrNotFound}, {make("/none"), api.ErrNotFound}, {make("/none/x"), api.ErrNotFound}, {make("/a/x"), api.ErrNotDir}, {make("/a/.."), api.ErrNotDir}, {make("/self"), api.ErrLoop}})
	}
	p.answers([]answer{
		{lstat("/l"), api.OK}, {lstat("/gone"), api.OK}, {lstat("/self"), api.OK}, {lstat("/"), api.OK}, {lstat("/up/.."), api.OK}, {lstat("/up/b"), api.OK}, {lstat("/none"), api.ErrNotFound}, {lstat("/self/x"), api.ErrLoop}, {lstat("/l/x"), api.ErrNotDir},
		{list("/"), api.OK}, {list("/up"), api.OK}, {list("/e"), api.OK}, {list("/up/../d/."), api.OK}, {list("/l"), api.ErrNotDir}, {list("/a"), api.ErrNotDir}, {list("/gone"), api.ErrNotFound}, {list("/self"), api.ErrLoop}, {list("/none"), api.ErrNotFound},
		{readlink("/l"), api.OK}, {readlink("/gone/"), api.OK}, {readlink("/self"), api.OK}, {readlink("/a"), api.ErrNotLink}, {readlink("/"), api.ErrNotLink}, {readlink("/d"), api.ErrNotLink}, {readlink("/up/.."), api.ErrNotLink}, {readlink("/none"), api.ErrNotFound}, {readlink("/gone/x"), api.ErrNotFound},
	})
	if r := p.does(readlink("/gone"), api.OK); r.Text != "/d/none" || r.N != 7 {
		t.Errorf("P1321: %+v", r)
	}
	if r := p.does(lstat("/l"), api.OK); r.Stat != (api.Stat{Node: 5, Kind: api.KLink, Links: 1, Size: 3, Owned: 1}) {
		t.Errorf("P1319: %+v", r.Stat)
	}
	if r := p.does(list("/up"), api.OK); r.N != 1 || r.Entries[0] != (api.Entry{Node: 4, Kind: api.KFile, Name: "b"}) {
		t.Errorf("P1320: %+v", r)
	}
	p.tree()
}
