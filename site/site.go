// Package site: what the tests of the file system, and of the packages over it, share: file systems to begin with, and the operations by name. No other package of the program calls it.
package site

import (
	"vellum/api"
	"vellum/disk"
	"vellum/fs"
	"vellum/trial"
)

// Made is a disk with an empty file system.
func Made(t trial.T, form api.Super) *disk.Disk {
	t.Helper()
	d, e := disk.New(form.Sectors)
	trial.Is(t, "New", e, api.OK)
	trial.Is(t, "P1301: Mkfs", fs.Mkfs(d, form.Log, form.Nodes), api.OK)
	return d
}

// Mounted is the file system on a disk.
func Mounted(t trial.T, d *disk.Disk) *fs.FS {
	t.Helper()
	f, e := fs.Mount(d)
	trial.Is(t, "P1302: Mount", e, api.OK)
	if f == nil {
		t.Fatalf("P1302: Mount answers no file system")
	}
	return f
}

// Loaded is a disk that holds an image.
func Loaded(t trial.T, image []byte) *disk.Disk {
	t.Helper()
	d, e := disk.Load(image)
	trial.Is(t, "Load", e, api.OK)
	return d
}

// Does does an operation that answers so.
func Does(t trial.T, f *fs.FS, op api.Op, want api.Errno) api.Reply {
	t.Helper()
	reply := f.Do(op)
	if reply.Err != want {
		t.Fatalf("operation %d of %.80q, %.80q: %v, want %v", op.Kind, op.Path, op.Other, reply.Err, want)
	}
	return reply
}

// All does operations that are not refused.
func All(t trial.T, f *fs.FS, ops ...api.Op) {
	t.Helper()
	for _, op := range ops {
		Does(t, f, op, api.OK)
	}
}

// The operations.
func Create(p string) api.Op           { return api.Op{Kind: api.OpCreate, Path: p} }
func Mkdir(p string) api.Op            { return api.Op{Kind: api.OpMkdir, Path: p} }
func Symlink(p, to string) api.Op      { return api.Op{Kind: api.OpSymlink, Path: p, Other: to} }
func Link(p, to string) api.Op         { return api.Op{Kind: api.OpLink, Path: p, Other: to} }
func Unlink(p string) api.Op           { return api.Op{Kind: api.OpUnlink, Path: p} }
func Rmdir(p string) api.Op            { return api.Op{Kind: api.OpRmdir, Path: p} }
func Rename(p, to string) api.Op       { return api.Op{Kind: api.OpRename, Path: p, Other: to} }
func Read(p string, off, n int) api.Op { return api.Op{Kind: api.OpRead, Path: p, Off: off, N: n} }
func Write(p string, off int, data string) api.Op {
	return api.Op{Kind: api.OpWrite, Path: p, Off: off, Data: []byte(data)}
}
func Truncate(p string, n int) api.Op   { return api.Op{Kind: api.OpTruncate, Path: p, N: n} }
func Punch(p string, off, n int) api.Op { return api.Op{Kind: api.OpPunch, Path: p, Off: off, N: n} }
func Stat(p string) api.Op              { return api.Op{Kind: api.OpStat, Path: p} }
func Lstat(p string) api.Op             { return api.Op{Kind: api.OpLstat, Path: p} }
func List(p string) api.Op              { return api.Op{Kind: api.OpList, Path: p} }
func Readlink(p string) api.Op          { return api.Op{Kind: api.OpReadlink, Path: p} }
func Runs(p string) api.Op              { return api.Op{Kind: api.OpRuns, Path: p} }
