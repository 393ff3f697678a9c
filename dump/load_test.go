package dump_test

import (
	"bytes"
	"fmt"
	"strings"
	"testing"

	"vellum/api"
	"vellum/dump"
	"vellum/fs"
	"vellum/site"
	"vellum/trial"
)

// byWords does what the chapter says of Load, by its table.
func byWords(f *fs.FS, archive []byte) (int, api.Errno) {
	if _, _, e := f.Space(); e == api.ErrDead {
		return 0, e
	}
	if len(archive) > 1<<22 {
		return 0, api.ErrLong
	}
	items, is := itemsOf(archive)
	if !is {
		return 0, api.ErrArchive
	}
	for i, item := range items {
		if e := site.Put(f, item); e != api.OK {
			return i, e
		}
	}
	return len(items), api.OK
}

// asTwin loads an archive here, and by the words at a copy of this ground: the answers must be the same, and the disks must have been asked the same and hold the same, behind a power cut too. Before it a fuse is set, if it is not below 0. It tells what was answered.
func (g *ground) asTwin(what string, archive []byte, fuse int) (int, api.Errno) {
	g.T.Helper()
	a, b := g.copied(), g.copied()
	if fuse >= 0 {
		a.D.Fuse(fuse)
		b.D.Fuse(fuse)
	}
	n, e := dump.Load(a.F, archive)
	if m, want := byWords(b.F, archive); n != m || e != want {
		g.T.Fatalf("P1504: Load of %s: %d, %v, want %d, %v", what, n, e, m, want)
	}
	if x, y := a.D.Counts(), b.D.Counts(); x != y {
		g.T.Fatalf("P1504: Load of %s: the disk was asked %+v, want %+v", what, x, y)
	}
	if !a.D.Burnt() {
		a.Whole()
		a.asTold()
	}
	picks := []api.Pick{trial.Keep(), trial.Lose(), trial.Tear(99)}
	a.D.Crash(picks)
	b.D.Crash(picks)
	if !bytes.Equal(a.D.Image(), b.D.Image()) {
		g.T.Fatalf("P1504: Load of %s: the disks are unlike", what)
	}
	onDisk(g.T, a.D).Whole()
	return n, e
}

func TestP1504Examples(t *testing.T) {
	archive := bytesOf(three())
	g := fresh(t, middle)
	g.loads(archive, 4, api.OK)
	g.saves(three())
	g = fresh(t, middle)
	g.All(site.Mkdir("/d"))
	g.loads(archive, 1, api.ErrExists)
	g.saves(three()[:2])
	g.loads(archive, 0, api.ErrExists)
	full := fresh(t, api.Super{Sectors: 28, Log: 18, Nodes: 8})
	full.All(site.Create("/f"), site.Write("/f", 0, strings.Repeat("x", 2*512)), site.Unlink("/f"), site.Create("/g"))
	node, _ := full.F.Hold("/g")
	full.All(site.Unlink("/g"), api.Op{Kind: api.OpWrite, Node: node, Data: bytes.Repeat([]byte("x"), 3*512)})
	if blocks, _, _ := full.F.Space(); blocks != 0 {
		t.Fatalf("%d blocks are free", blocks)
	}
	full.loads(archive, 0, api.ErrNoSpace)
	full.saves(nil)
}

// Each kind of item is put in by the operations that the table names, and no others.
func TestP1504Twins(t *testing.T) {
	empty := fresh(t, api.Super{Sectors: 600, Log: 60, Nodes: 24}).synced()
	long := func(from, to, size int) api.Item { return fileItem("/f", size, 512*(to-from), run(from, to)) }
	for i, items := range [][]api.Item{
		nil, three(), sample(), {dirItem("/d")}, {linkItem("/l", "x")}, {fileItem("/f", 0, 0)}, {fileItem("/f", 1, 0)}, {fileItem("/f", api.MaxFile, 0)}, {fileItem("/f", 1, 0), nameItem("/g", "/f"), nameItem("/h", "/f")},
		{long(0, 1, 1)}, {long(0, 1, 512)}, {long(0, 128, 65536)}, {long(0, 129, 65537)}, {long(0, 129, 129*512)}, {long(0, 128, 65535)}, {long(5, 133, 133*512)}, {long(5, 134, 133*512+1)}, {long(5, 300, 300*512)}, {long(1, 257, 257*512)}, {long(1, 257, 256*512+1)}, {long(3, 258, 200000)}, {long(0, 384, 3*65536)},
		{fileItem("/f", 150000, 512*290, run(0, 130), run(131, 291))}, {fileItem("/f", api.MaxFile, 1536, run(0, 1), run(138, 139), run(16521, 16522))},
	} {
		if n, e := empty.asTwin(fmt.Sprint("row ", i), bytesOf(items), -1); n != len(items) || e != api.OK {
			t.Errorf("P1504: row %d: %d, %v", i, n, e)
		}
		g := empty.copied()
		g.loads(bytesOf(items), len(items), api.OK)
		g.saves(items)
	}
}

// What is no archive is refused with 0, and nothing is done.
func TestP1504NoArchive(t *testing.T) {
	g := fresh(t, middle)
	g.All(site.Create("/a"))
	right := bytesOf([]api.Item{dirItem("/x"), dirItem("/y")})
	wrong := bytes.Clone(right)
	wrong[len(wrong)-1]++
	for _, c := range []struct {
		archive []byte
		e       api.Errno
	}{
		{nil, api.ErrArchive}, {wrong, api.ErrArchive}, {right[1:], api.ErrArchive}, {right[:len(right)-1], api.ErrArchive}, {make([]byte, 1<<22), api.ErrArchive}, {make([]byte, 1<<22+1), api.ErrLong}, {bytesOf(filled(1<<22 + 1)), api.ErrLong},
		{bytesOf([]api.Item{dirItem("/x"), dirItem("/y"), dirItem("/y")}), api.ErrArchive}, {bytesOf(many(4097)), api.ErrArchive},
	} {
		g.Unchanged("Load of what is no archive", func() { g.loads(c.archive, 0, c.e) })
	}
	g.saves([]api.Item{fileItem("/a", 0, 0)})
	g.loads(right, 2, api.OK)
}

// The first operation that is refused ends it, at each place of the list; what was done stays.
func TestP1504Exists(t *testing.T) {
	items := append(sample(), nameItem("/e", "/c"), dirItem("/f"), linkItem("/f/l", "x"))
	for i, item := range items {
		if strings.Count(item.Path, "/") > 1 {
			continue
		}
		for _, there := range []api.Op{site.Create(item.Path), site.Mkdir(item.Path), site.Symlink(item.Path, "none")} {
			g := fresh(t, middle)
			g.All(there)
			g.synced()
			if n, e := g.asTwin("what is there", bytesOf(items), -1); n != i || e != api.ErrExists {
				t.Errorf("P1504: %s is there: %d, %v, want %d", item.Path, n, e, i)
			}
			g.loads(bytesOf(items), i, api.ErrExists)
			g.Whole()
			for _, done := range items[:i] {
				site.Does(t, g.F, site.Lstat(done.Path), api.OK)
			}
			for _, left := range items[i+1:] {
				if g.F.Do(site.Lstat(left.Path)).Err == api.OK {
					t.Errorf("P1504: %s is there, though %s was refused", left.Path, item.Path)
				}
			}
		}
	}
}

// Room: with each number of blocks and of nodes that may be free, the list comes as far as it can.
func TestP1504Room(t *testing.T) {
	items := []api.Item{dirItem("/a"), fileItem("/a/f", 9000, 512*9, run(0, 1), run(9, 17)), linkItem("/a/l", "text"), dirItem("/b"), nameItem("/b/f", "/a/f"), fileItem("/c", 5000, 0), fileItem("/d", 65536, 512*18, run(100, 118))}
	used := 1 + 1 + (9 + 1) + 1 + 1 + (18 + 1)
	answers := map[api.Errno]int{}
	for _, nodes := range []int{4, 8} {
		for blocks := 1; blocks <= used+1; blocks++ {
			g := fresh(t, api.Super{Sectors: 3 + 18 + 2 + nodes/4 + blocks, Log: 18, Nodes: nodes}).synced()
			n, e := g.asTwin(fmt.Sprintf("%d blocks, %d nodes", blocks, nodes), bytesOf(items), -1)
			answers[e]++
			if want := nodes == 8 && blocks >= used; (e == api.OK) != want || want && n != len(items) {
				t.Errorf("P1505: %d blocks, %d nodes: %d, %v", blocks, nodes, n, e)
			}
		}
	}
	if answers[api.OK] != 2 || answers[api.ErrNoSpace] < 30 || answers[api.ErrNoNodes] < 10 {
		t.Errorf("answers: %v", answers)
	}
}

// Links: a file has 64 names at most, and a directory 62 directories.
func TestP1504Links(t *testing.T) {
	g := fresh(t, api.Super{Sectors: 200, Log: 18, Nodes: 100}).synced()
	names := []api.Item{fileItem("/a00", 0, 0)}
	for i := range 66 {
		names = append(names, nameItem(fmt.Sprintf("/b%02d", i), "/a00"))
	}
	for count, want := range map[int]int{64: 64, 65: 64, 67: 64} {
		n, e := g.asTwin("names", bytesOf(names[:count]), -1)
		if n != want || (e == api.OK) != (n == count) || e != api.OK && e != api.ErrLinks {
			t.Errorf("P1504: %d names: %d, %v", count, n, e)
		}
	}
	for count, want := range map[int]int{62: 62, 63: 62, 70: 62} {
		n, e := g.asTwin("directories", bytesOf(many(count)), -1)
		if n != want || (e == api.OK) != (n == count) || e != api.OK && e != api.ErrLinks {
			t.Errorf("P1504: %d directories: %d, %v", count, n, e)
		}
	}
}

// The power goes at each write of a Load: it answers ErrDead, and how many items were put in whole.
func TestP1504Cut(t *testing.T) {
	g := fresh(t, api.Super{Sectors: 120, Log: 18, Nodes: 24}).synced()
	items := append(sample(), fileItem("/d", 9000, 512*18, run(0, 18)))
	archive := bytesOf(items)
	dry := g.copied()
	was := dry.D.Counts()
	dry.loads(archive, len(items), api.OK)
	now := dry.D.Counts()
	total := now.Writes + now.Flushes - was.Writes - was.Flushes
	if total < 30 {
		t.Fatalf("%d writes are few", total)
	}
	last := 0
	for fuse := range total + 1 {
		n, e := g.asTwin(fmt.Sprintf("a disk that burns behind %d of %d", fuse, total), archive, fuse)
		if fuse == 0 && n != 0 || n < last || (e == api.ErrDead) != (fuse < total) {
			t.Errorf("P1504: burnt behind %d of %d: %d, %v", fuse, total, n, e)
		}
		last = n
	}
	if last != len(items) {
		t.Errorf("P1504: %d items in the end", last)
	}
}

// Nothing is synced: where the log has room nothing is flushed, and a cut may lose it all.
func TestP1504NoSync(t *testing.T) {
	g := fresh(t, api.Super{Sectors: 500, Log: 256, Nodes: 24})
	was := g.D.Counts().Flushes
	g.loads(bytesOf(sample()), 7, api.OK)
	if now := g.D.Counts(); now.Flushes != was || now.Pending == 0 {
		t.Errorf("P1504: %+v, and there were %d flushes", now, was)
	}
	g.D.Crash(nil)
	onDisk(t, g.D).saves(nil)
}

// The archive is neither changed nor kept.
func TestP2Load(t *testing.T) {
	g := fresh(t, middle)
	archive := bytesOf(sample())
	was := bytes.Clone(archive)
	g.loads(archive, 7, api.OK)
	if !bytes.Equal(archive, was) {
		t.Error("P2: Load has changed the archive")
	}
	for i := range archive {
		archive[i] = 0xEE
	}
	saved := g.saves(sample())
	for i := range saved {
		saved[i] = 0xEE
	}
	g.saves(sample())
}
