package fs_test

import (
	"math"
	"slices"
	"strings"
	"testing"

	"vellum/api"
	"vellum/site"
)

// planted is a small tree: /a and /d/b are files, /l leads to /d/b, /up to /d, /gone to what is not there, /self to itself.
func planted(t *testing.T) *pair {
	t.Helper()
	p := paired(t, api.Super{Sectors: 100, Log: 18, Nodes: 16})
	p.all(site.Create("/a"), site.Write("/a", 0, "text"), site.Mkdir("/d"), site.Create("/d/b"), site.Symlink("/l", "d/b"), site.Symlink("/up", "d"), site.Symlink("/gone", "/d/none"), site.Symlink("/self", "self"), site.Mkdir("/e"))
	return p
}

func TestP1304Kinds(t *testing.T) {
	p := planted(t)
	for _, kind := range []int{0, 17, 18, 255, 256, -1, -16, math.MaxInt, math.MinInt, 1 << 32, 1<<32 + 1} {
		for _, op := range []api.Op{{}, {Path: "/a", Other: "/x"}, {Node: 1, Off: -1, N: -1}, {Path: "\x00"}} {
			op.Kind = kind
			p.does(op, api.ErrOp)
		}
	}
	p.tree()
}

// usual is an operation of each kind that is done, and the fields that it has.
func usual() []struct {
	op     api.Op
	fields string
} {
	return []struct {
		op     api.Op
		fields string
	}{
		{site.Create("/n"), "path"}, {site.Mkdir("/n"), "path"}, {site.Symlink("/n", "x"), "path other"}, {site.Link("/a", "/n"), "path other"}, {site.Unlink("/a"), "path"}, {site.Rmdir("/e"), "path"}, {site.Rename("/a", "/n"), "path other"},
		{site.Read("/a", 1, 2), "path off n"}, {site.Write("/a", 1, "new"), "path off data"}, {site.Truncate("/a", 9), "path n"}, {site.Punch("/a", 1, 2), "path off n"}, {site.Stat("/a"), "path"}, {site.Lstat("/l"), "path"}, {site.List("/"), "path"}, {site.Readlink("/l"), "path"}, {site.Runs("/a"), "path"},
		{by(2, site.Read("", 1, 2)), "node off n"}, {by(2, site.Write("", 1, "new")), "node off data"}, {by(2, site.Truncate("", 9)), "node n"}, {by(2, site.Punch("", 1, 2)), "node off n"}, {by(2, site.Stat("")), "node"}, {by(2, site.Runs("")), "node"},
	}
}

// What an operation does not name is not looked at.
func TestP1304Fields(t *testing.T) {
	for _, c := range usual() {
		p, q := planted(t), planted(t)
		p.hold("/a", api.OK)
		q.hold("/a", api.OK)
		op := c.op
		has := func(field string) bool { return slices.Contains(strings.Fields(c.fields), field) }
		if !has("path") {
			op.Path = "\x00"
		}
		if !has("other") {
			op.Other = strings.Repeat("o", 2000)
		}
		if !has("node") { // of those that could have one, the ones that have a path alone say no node
			op.Node = -7
			if op.Kind < api.OpRead || op.Kind > api.OpStat && op.Kind < api.OpRuns {
				op.Node = 77
			}
		}
		if !has("off") {
			op.Off = -5
		}
		if !has("n") {
			op.N = -5
		}
		if !has("data") {
			op.Data = make([]byte, 70000)
		}
		if got, want := p.f.Do(op), q.f.Do(c.op); !same(got, want) || got.Err != api.OK {
			t.Errorf("P1304: %s: %s, want %s", says(op), says(got), says(want))
		}
		if treeOf(p.f.Do) != treeOf(q.f.Do) {
			t.Errorf("P1304: %s: another tree", says(op))
		}
	}
}

// An operation's reply has what it tells and nothing else.
func TestP1304Replies(t *testing.T) {
	for _, c := range usual() {
		p := planted(t)
		p.hold("/a", api.OK)
		r := p.does(c.op, api.OK)
		tells := map[string]bool{"n": r.N != 0, "data": r.Data != nil, "stat": r.Stat != api.Stat{}, "entries": r.Entries != nil, "runs": r.Runs != nil, "text": r.Text != ""}
		want := map[int]string{api.OpRead: "n data", api.OpWrite: "n", api.OpStat: "stat", api.OpLstat: "stat", api.OpList: "n entries", api.OpReadlink: "n text", api.OpRuns: "n runs"}[c.op.Kind]
		for what, told := range tells {
			if told != slices.Contains(strings.Fields(want), what) {
				t.Errorf("P1304: %s: %s", says(c.op), says(r))
			}
		}
	}
}

// The arguments come ahead of all that the disk holds, from left to right.
func TestP1306Order(t *testing.T) {
	p := planted(t)
	p.hold("/a", api.OK)
	long, none, name := strings.Repeat("/x", 512), "x", "/"+strings.Repeat("y", 55)
	for _, make := range []func(path string) api.Op{site.Create, site.Mkdir, site.Unlink, site.Rmdir} {
		p.answers([]answer{{make(long), api.ErrLong}, {make(none), api.ErrPath}, {make(""), api.ErrPath}, {make(name), api.ErrLong}, {make("/a/\x00"), api.ErrName}, {make("/"), api.ErrPath}, {make("/."), api.ErrPath}, {make("//"), api.ErrPath}, {make("/.."), api.ErrPath}, {make("/none/.."), api.ErrPath}, {make("/a/../."), api.ErrPath}, {make("/self/../x" + "\x00"), api.ErrName}})
	}
	for _, make := range []func(path, other string) api.Op{site.Rename, site.Link, site.Symlink} {
		p.answers([]answer{{make(long, none), api.ErrLong}, {make(none, name), api.ErrPath}, {make(name, ""), api.ErrLong}, {make("/a\x00", ""), api.ErrName}})
	}
	for _, other := range []answer{{site.Create(long), api.ErrLong}, {site.Create(none), api.ErrPath}, {site.Create(""), api.ErrPath}, {site.Create(name), api.ErrLong}, {site.Create("/b\x00"), api.ErrName}, {site.Create("/"), api.ErrPath}, {site.Create("/a/.."), api.ErrPath}} {
		for _, path := range []string{"/a", "/none", "/none/x", "/self/x", "/a/x", "/d"} {
			p.does(site.Rename(path, other.op.Path), other.want)
			p.does(site.Link(path, other.op.Path), other.want)
		}
	}
	p.answers([]answer{
		{site.Rename("/", "/x\x00"), api.ErrPath}, {site.Rename("/a/..", long), api.ErrPath}, {site.Rename("/d/../a", "/"), api.ErrPath},
		{site.Link("/", "/"), api.ErrPath}, {site.Link("/", "/x"), api.ErrIsDir}, {site.Link("/d/..", "/x"), api.ErrIsDir}, {site.Link("/none", "/.."), api.ErrPath},
		{site.Symlink("/", ""), api.ErrPath}, {site.Symlink("/..", strings.Repeat("t", 256)), api.ErrPath},
		{site.Symlink("/none/x", ""), api.ErrPath}, {site.Symlink("/a", "x\x00"), api.ErrPath}, {site.Symlink("/a", "\x00"), api.ErrPath}, {site.Symlink("/a", strings.Repeat("t", 256)), api.ErrLong}, {site.Symlink("/a", strings.Repeat("t", 255)+"\x00"), api.ErrPath}, {site.Symlink("/a", strings.Repeat("t", 255)), api.ErrExists}, {site.Symlink("/none/x", "x"), api.ErrNotFound},
	})
	for _, path := range []string{"/a", "/none", "/d", "/self", "/a/x"} {
		p.answers([]answer{
			{site.Read(path, -1, -1), api.ErrArg}, {site.Read(path, -1, 65537), api.ErrArg}, {site.Read(path, 0, -1), api.ErrArg}, {site.Read(path, 0, 65537), api.ErrLong}, {site.Read(path, math.MaxInt, math.MaxInt), api.ErrLong}, {site.Read(path, math.MinInt, 0), api.ErrArg},
			{site.Write(path, -1, strings.Repeat("x", 65537)), api.ErrArg}, {site.Write(path, api.MaxFile, strings.Repeat("x", 65537)), api.ErrLong}, {site.Write(path, api.MaxFile, "x"), api.ErrBig}, {site.Write(path, api.MaxFile+1, ""), api.ErrBig}, {site.Write(path, math.MaxInt, "x"), api.ErrBig}, {site.Write(path, api.MaxFile-65535, strings.Repeat("x", 65536)), api.ErrBig}, {site.Write(path, -1, ""), api.ErrArg},
			{site.Truncate(path, -1), api.ErrArg}, {site.Truncate(path, api.MaxFile+1), api.ErrBig}, {site.Truncate(path, math.MaxInt), api.ErrBig}, {site.Truncate(path, math.MinInt), api.ErrArg},
			{site.Punch(path, -1, -1), api.ErrArg}, {site.Punch(path, 0, -1), api.ErrArg}, {site.Punch(path, -1, 0), api.ErrArg}, {site.Punch(path, math.MaxInt, math.MinInt), api.ErrArg},
		})
	}
	for _, path := range []answer{{site.Create(long), api.ErrLong}, {site.Create(none), api.ErrPath}, {site.Create(name), api.ErrLong}, {site.Create("/b\x00"), api.ErrName}} {
		at := path.op.Path
		for _, op := range []api.Op{site.Read(at, -1, -1), site.Write(at, -1, "x"), site.Truncate(at, -1), site.Punch(at, -1, -1), site.Stat(at), site.Lstat(at), site.List(at), site.Readlink(at), site.Runs(at)} {
			p.does(op, path.want)
		}
	}
	p.tree()
}

// A held node is asked for behind the arguments, and a path in its stead is not looked at.
func TestP1305Order(t *testing.T) {
	p := planted(t)
	k := p.hold("/a", api.OK)
	for _, node := range []int{1, 3, 4, 16, 17, 1 << 40, math.MaxInt} { // the root, a directory, a file that is not held, none
		p.answers([]answer{
			{by(node, site.Read("", -1, 0)), api.ErrArg}, {by(node, site.Read("", 0, 65537)), api.ErrLong}, {by(node, site.Read("", 0, 0)), api.ErrNotHeld},
			{by(node, site.Write("", -1, "")), api.ErrArg}, {by(node, site.Write("", 0, strings.Repeat("x", 65537))), api.ErrLong}, {by(node, site.Write("", api.MaxFile, "x")), api.ErrBig}, {by(node, site.Write("", 0, "")), api.ErrNotHeld}, {by(node, site.Write("", 0, "x")), api.ErrNotHeld},
			{by(node, site.Truncate("", -1)), api.ErrArg}, {by(node, site.Truncate("", api.MaxFile+1)), api.ErrBig}, {by(node, site.Truncate("", 0)), api.ErrNotHeld},
			{by(node, site.Punch("", 0, -1)), api.ErrArg}, {by(node, site.Punch("", 0, 0)), api.ErrNotHeld}, {by(node, site.Stat("")), api.ErrNotHeld}, {by(node, site.Runs("")), api.ErrNotHeld},
		})
	}
	p.answers([]answer{{by(k, site.Read("", 0, 9)), api.OK}, {by(k, site.Read("", 0, 65537)), api.ErrLong}, {by(k, site.Write("", 4, " and more")), api.OK}, {by(k, site.Truncate("", 6)), api.OK}, {by(k, site.Punch("", 1, 2)), api.OK}, {by(k, site.Stat("")), api.OK}, {by(k, site.Runs("")), api.OK}})
	for _, node := range []int{0, -1, math.MinInt} { // no node: the path counts
		for _, op := range []api.Op{site.Read("/none", 0, 9), site.Stat("/none"), site.Truncate("/none", 0)} {
			op.Node = node
			p.does(op, api.ErrNotFound)
		}
		op := site.Stat("/l")
		op.Node = node
		p.does(op, api.OK)
	}
	p.tree()
}

// Where the path leads, links are followed or not, as the operation says.
func TestP1305Places(t *testing.T) {
	p := planted(t)
	for _, make := range []func(path string) api.Op{
		site.Stat, site.Runs,
		func(path string) api.Op { return site.Read(path, 0, 9) },
		func(path string) api.Op { return site.Write(path, 0, "new") },
		func(path string) api.Op { return site.Write(path, 0, "") },
		func(path string) api.Op { return site.Truncate(path, 7) },
		func(path string) api.Op { return site.Punch(path, 0, 1) },
	} {
		isDir := api.ErrIsDir
		if make("").Kind == api.OpStat {
			isDir = api.OK
		}
		p.answers([]answer{{make("/a"), api.OK}, {make("/l"), api.OK}, {make("/up/b/"), api.OK}, {make("/d/../l/."), api.OK}, {make("/up"), isDir}, {make("/"), isDir}, {make("/up/.."), isDir}, {make("/gone"), api.ErrNotFound}, {make("/none"), api.ErrNotFound}, {make("/none/x"), api.ErrNotFound}, {make("/a/x"), api.ErrNotDir}, {make("/a/.."), api.ErrNotDir}, {make("/self"), api.ErrLoop}})
	}
	p.answers([]answer{
		{site.Lstat("/l"), api.OK}, {site.Lstat("/gone"), api.OK}, {site.Lstat("/self"), api.OK}, {site.Lstat("/"), api.OK}, {site.Lstat("/up/.."), api.OK}, {site.Lstat("/up/b"), api.OK}, {site.Lstat("/none"), api.ErrNotFound}, {site.Lstat("/self/x"), api.ErrLoop}, {site.Lstat("/l/x"), api.ErrNotDir},
		{site.List("/"), api.OK}, {site.List("/up"), api.OK}, {site.List("/e"), api.OK}, {site.List("/up/../d/."), api.OK}, {site.List("/l"), api.ErrNotDir}, {site.List("/a"), api.ErrNotDir}, {site.List("/gone"), api.ErrNotFound}, {site.List("/self"), api.ErrLoop}, {site.List("/none"), api.ErrNotFound},
		{site.Readlink("/l"), api.OK}, {site.Readlink("/gone/"), api.OK}, {site.Readlink("/self"), api.OK}, {site.Readlink("/a"), api.ErrNotLink}, {site.Readlink("/"), api.ErrNotLink}, {site.Readlink("/d"), api.ErrNotLink}, {site.Readlink("/up/.."), api.ErrNotLink}, {site.Readlink("/none"), api.ErrNotFound}, {site.Readlink("/gone/x"), api.ErrNotFound},
	})
	if r := p.does(site.Readlink("/gone"), api.OK); r.Text != "/d/none" || r.N != 7 {
		t.Errorf("P1321: %+v", r)
	}
	if r := p.does(site.Lstat("/l"), api.OK); r.Stat != (api.Stat{Node: 5, Kind: api.KLink, Links: 1, Size: 3, Owned: 1}) {
		t.Errorf("P1319: %+v", r.Stat)
	}
	if r := p.does(site.List("/up"), api.OK); r.N != 1 || r.Entries[0] != (api.Entry{Node: 4, Kind: api.KFile, Name: "b"}) {
		t.Errorf("P1320: %+v", r)
	}
	p.tree()
}
