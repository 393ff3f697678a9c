package handle_test

import (
	"testing"

	"vellum/api"
	"vellum/disk"
	"vellum/fs"
	"vellum/handle"
	"vellum/site"
	"vellum/trial"
)

const (
	mRead   = 1
	mWrite  = 2
	mAppend = 4
	mCreate = 8
	mFresh  = 16
	mEmpty  = 32
)

// bench is a disk, the file system on it, and a desk over that.
type bench struct {
	t *testing.T
	d *disk.Disk
	f *fs.FS
	k *handle.Desk
}

func onDisk(t *testing.T, d *disk.Disk) *bench {
	t.Helper()
	f := site.Mounted(t, d)
	return &bench{t, d, f, handle.New(f)}
}

// planted has the files /a ("hello") and /d/b, the directories /d and /e, and links: /l leads to /a, /up to /d, /gone and /far to what is not there, /self to itself. It has 24 nodes, of which 10 are taken.
func planted(t *testing.T) *bench {
	t.Helper()
	b := onDisk(t, site.Made(t, api.Super{Sectors: 100, Log: 18, Nodes: 24}))
	b.all(site.Create("/a"), site.Write("/a", 0, "hello"), site.Mkdir("/d"), site.Create("/d/b"), site.Mkdir("/e"), site.Symlink("/l", "a"), site.Symlink("/up", "d"), site.Symlink("/gone", "/d/none"), site.Symlink("/far", "none/x"), site.Symlink("/self", "self"))
	return b
}

// copied is a bench on a disk of its own that holds what is durable on this one.
func (b *bench) copied() *bench {
	b.t.Helper()
	return onDisk(b.t, site.Loaded(b.t, b.d.Image()))
}

// beside is one more desk over the same file system.
func (b *bench) beside() *bench { return &bench{b.t, b.d, b.f, handle.New(b.f)} }

// all does operations that are not refused.
func (b *bench) all(ops ...api.Op) {
	b.t.Helper()
	for _, op := range ops {
		trial.Is(b.t, "Do", b.f.Do(op).Err, api.OK)
	}
}

func (b *bench) opens(path string, mode, want int, e api.Errno) {
	b.t.Helper()
	if h, err := b.k.Open(path, mode); h != want || err != e {
		b.t.Fatalf("P1402: Open(%.60q, %d): %d, %v, want %d, %v", path, mode, h, err, want, e)
	}
}

func (b *bench) reads(h, n int, want string, e api.Errno) {
	b.t.Helper()
	if data, err := b.k.Read(h, n); string(data) != want || err != e {
		b.t.Fatalf("P1403: Read(%d, %d): %.60q, %v, want %.60q, %v", h, n, data, err, want, e)
	}
}

func (b *bench) writes(h int, data string, want int, e api.Errno) {
	b.t.Helper()
	if n, err := b.k.Write(h, []byte(data)); n != want || err != e {
		b.t.Fatalf("P1404: Write(%d, %d bytes): %d, %v, want %d, %v", h, len(data), n, err, want, e)
	}
}

func (b *bench) seeks(h, off, whence, want int, e api.Errno) {
	b.t.Helper()
	if n, err := b.k.Seek(h, off, whence); n != want || err != e {
		b.t.Fatalf("P1405: Seek(%d, %d, %d): %d, %v, want %d, %v", h, off, whence, n, err, want, e)
	}
}

// stands asks for the place of a handle.
func (b *bench) stands(h, want int) {
	b.t.Helper()
	b.seeks(h, 0, 1, want, api.OK)
}

func (b *bench) stats(h int, want api.Stat, e api.Errno) {
	b.t.Helper()
	if s, err := b.k.Stat(h); s != want || err != e {
		b.t.Fatalf("P1406: Stat(%d): %+v, %v, want %+v, %v", h, s, err, want, e)
	}
}

// sized asks for the size of an open file.
func (b *bench) sized(h, want int) {
	b.t.Helper()
	if s, e := b.k.Stat(h); s.Size != want || e != api.OK {
		b.t.Fatalf("P1406: Stat(%d): %+v, %v, want the size %d", h, s, e, want)
	}
}

func (b *bench) closes(h int, e api.Errno) {
	b.t.Helper()
	trial.Is(b.t, "P1407: Close", b.k.Close(h), e)
}

// holds asks for the bytes of a file, by a path.
func (b *bench) holds(path, want string) {
	b.t.Helper()
	r := b.f.Do(api.Op{Kind: api.OpRead, Path: path, N: api.MaxIO})
	if string(r.Data) != want || r.Err != api.OK {
		b.t.Fatalf("P1408: %s holds %.60q, %v, want %.60q", path, r.Data, r.Err, want)
	}
}

// there asks whether a name is there.
func (b *bench) there(path string, want bool) {
	b.t.Helper()
	r := b.f.Do(api.Op{Kind: api.OpLstat, Path: path})
	if (r.Err == api.OK) != want {
		b.t.Fatalf("Lstat %s: %v, want it there: %v", path, r.Err, want)
	}
}

// held asks that just these nodes are held.
func (b *bench) held(nodes ...int) {
	b.t.Helper()
	want := map[int]int{}
	for _, k := range nodes {
		want[k]++
	}
	for k := 1; k <= 24; k++ {
		e := b.f.Do(api.Op{Kind: api.OpStat, Node: k}).Err
		if (e == api.OK) != (want[k] > 0) {
			b.t.Fatalf("node %d: %v, want it held: %v", k, e, want[k] > 0)
		}
	}
}

// room asks how many blocks and nodes are free.
func (b *bench) room(blocks, nodes int) {
	b.t.Helper()
	if m, n, e := b.f.Space(); m != blocks || n != nodes || e != api.OK {
		b.t.Fatalf("Space: %d, %d, %v, want %d, %d", m, n, e, blocks, nodes)
	}
}

// left is what room asks for now, with so many blocks and nodes more.
func (b *bench) left(blocks, nodes int) func() {
	b.t.Helper()
	m, n, e := b.f.Space()
	trial.Is(b.t, "Space", e, api.OK)
	return func() {
		b.t.Helper()
		b.room(m+blocks, n+nodes)
	}
}

// The chapter's examples.
func TestExamples(t *testing.T) {
	b := onDisk(t, site.Made(t, api.Super{Sectors: 100, Log: 18, Nodes: 24}))
	b.all(site.Create("/a"), site.Write("/a", 0, "hello"))
	b.opens("/a", mRead, 1, api.OK)
	b.reads(1, 3, "hel", api.OK)
	b.reads(1, 9, "lo", api.OK)
	b.reads(1, 9, "", api.OK)
	b.writes(1, "x", 0, api.ErrMode)
	b.opens("/a", mWrite+mAppend, 2, api.OK)
	b.writes(2, "!!", 2, api.OK)
	b.sized(2, 7)
	b.seeks(2, 0, 1, 7, api.OK)
	b.seeks(1, -2, 2, 5, api.OK)
	b.reads(1, 9, "!!", api.OK)
	b.opens("/b", mRead, 0, api.ErrNotFound)
	b.opens("/b", mRead+mCreate, 3, api.OK)
	b.there("/b", true)
	b.opens("/b", mWrite+mCreate+mFresh, 0, api.ErrExists)
	b.opens("/a", 0, 0, api.ErrMode)
	b.opens("/a", mAppend+mRead, 0, api.ErrMode)
	b.opens("/a", mFresh+mRead, 0, api.ErrMode)
	b.opens("a", 64, 0, api.ErrPath)
	b.opens("/", mRead, 0, api.ErrIsDir)
	freed := b.left(1, 1)
	b.all(site.Unlink("/a"))
	b.stats(1, api.Stat{Node: 2, Kind: api.KFile, Size: 7, Owned: 1}, api.OK)
	b.writes(2, "?", 1, api.OK)
	b.reads(1, 9, "?", api.OK)
	b.closes(1, api.OK)
	b.closes(2, api.OK)
	freed()
	b.seeks(3, -1, 0, 0, api.ErrArg)
	b.seeks(3, 8459265, 0, 0, api.ErrBig)
	b.seeks(3, 8459264, 0, 8459264, api.OK)
	b.writes(3, "x", 0, api.ErrMode)
	b.all(site.Write("/b", 0, "to go"))
	b.opens("/b", mWrite+mEmpty, 1, api.OK)
	b.sized(1, 0)
	b.closes(9, api.ErrHandle)
	b.closes(0, api.ErrHandle)
	b.reads(9, -1, "", api.ErrHandle)
	b.reads(3, 65537, "", api.ErrLong)
	b.reads(3, -1, "", api.ErrArg)
	for h := range 16 {
		if h+1 != 1 && h+1 != 3 {
			b.opens("/b", mRead, h+1, api.OK)
		}
	}
	b.opens("/b", mRead, 0, api.ErrMany)
	b.d.Crash(nil)
	b.opens("/b", mRead, 0, api.ErrDead)
	b.closes(1, api.ErrDead)
}

func TestP1401(t *testing.T) {
	b := planted(t)
	was := b.d.Counts()
	k := b.beside()
	if now := b.d.Counts(); now != was {
		t.Errorf("P1401: New asks the disk: %+v, before %+v", now, was)
	}
	b.opens("/a", mRead+mWrite, 1, api.OK)
	for h := -2; h < 20; h++ {
		for _, a := range answersOf(k.k, h) {
			trial.Is(t, "P1401: of a new desk: "+a.what, a.e, api.ErrHandle)
		}
	}
	b.d.Crash(nil)
	for _, a := range answersOf(b.beside().k, 1) {
		trial.Is(t, "P1401: of a desk over what is dead: "+a.what, a.e, api.ErrDead)
	}
}

// refused is what a call answers that has nothing else to answer.
type refused struct {
	what string
	e    api.Errno
}

// answersOf makes all the calls that take a handle, Close last; each must be refused, with zeros beside the error.
func answersOf(k *handle.Desk, h int) []refused {
	data, readE := k.Read(h, 1)
	n, writeE := k.Write(h, []byte("x"))
	place, seekE := k.Seek(h, 3, 0)
	s, statE := k.Stat(h)
	list := []refused{{"Read", readE}, {"Write", writeE}, {"Seek", seekE}, {"Stat", statE}}
	if len(data) != 0 || n != 0 || place != 0 || s != (api.Stat{}) {
		list = append(list, refused{what: "P4: something beside an error"})
	}
	return append(list, refused{"Close", k.Close(h)})
}
