package disk_test

import (
	"bytes"
	"math"
	"slices"
	"testing"

	"vellum/api"
	"vellum/disk"
)

func full(c byte) []byte { return bytes.Repeat([]byte{c}, api.Size) }

func torn(a, b byte, cut int) []byte { return append(full(a)[:cut:cut], full(b)[cut:]...) }

func fresh(t *testing.T, sectors int) *disk.Disk {
	t.Helper()
	d, e := disk.New(sectors)
	if e != api.OK || d == nil {
		t.Fatalf("New(%d): %v", sectors, e)
	}
	return d
}

func wantErr(t *testing.T, what string, got, want api.Errno) {
	t.Helper()
	if got != want {
		t.Errorf("%s: %v, want %v", what, got, want)
	}
}

func wantRead(t *testing.T, d *disk.Disk, at int, want []byte) {
	t.Helper()
	got, e := d.Read(at)
	if e != api.OK || !bytes.Equal(got, want) {
		t.Errorf("Read(%d): %.8q.., %v, want %.8q..", at, got, e, want)
	}
}

func wantRefusedRead(t *testing.T, d *disk.Disk, at int, want api.Errno) {
	t.Helper()
	got, e := d.Read(at)
	if e != want || len(got) != 0 {
		t.Errorf("Read(%d): %d bytes, %v, want none, %v", at, len(got), e, want)
	}
}

func wantCounts(t *testing.T, d *disk.Disk, want api.Counts) {
	t.Helper()
	if got := d.Counts(); got != want {
		t.Errorf("Counts: %+v, want %+v", got, want)
	}
}

// asNew: P101 and P102 promise this of every disk that was just made.
func asNew(t *testing.T, d *disk.Disk, image []byte) {
	t.Helper()
	if d.Life() != 1 || d.Burnt() || d.Sectors() != len(image)/api.Size || !bytes.Equal(d.Image(), image) {
		t.Errorf("a new disk: life %d, burnt %v, %d sectors", d.Life(), d.Burnt(), d.Sectors())
	}
	wantCounts(t, d, api.Counts{})
	for range 100 {
		wantErr(t, "Flush of a disk without a fuse", d.Flush(), api.OK)
	}
	if !bytes.Equal(d.Image(), image) {
		t.Error("a Flush of a new disk changed its image")
	}
}

var noSector = []int{-1, 4, 5, 2048, math.MaxInt, math.MinInt}

func TestP101New(t *testing.T) {
	for _, n := range []int{0, -1, api.MaxSectors + 1, math.MaxInt, math.MinInt, math.MaxInt/api.Size + 2} {
		if d, e := disk.New(n); d != nil || e != api.ErrSectors {
			t.Errorf("New(%d): %v, %v", n, d != nil, e)
		}
	}
	for _, n := range []int{1, 2, 4, api.MaxSectors - 1, api.MaxSectors} {
		asNew(t, fresh(t, n), make([]byte, n*api.Size))
	}
}

func TestP102Load(t *testing.T) {
	const most = api.Size * api.MaxSectors
	for n, want := range map[int]api.Errno{
		0: api.ErrSectors, most + api.Size: api.ErrSectors, 3 * most: api.ErrSectors,
		1: api.ErrLength, 511: api.ErrLength, 513: api.ErrLength, most - 1: api.ErrLength, most + 1: api.ErrLength, most + 513: api.ErrLength,
	} {
		if d, e := disk.Load(make([]byte, n)); d != nil || e != want {
			t.Errorf("Load of %d bytes: %v, %v, want %v", n, d != nil, e, want)
		}
	}
	if d, e := disk.Load(nil); d != nil || e != api.ErrSectors {
		t.Errorf("Load(nil): %v, %v", d != nil, e)
	}
	for _, n := range []int{1, 2, api.MaxSectors} {
		image := make([]byte, n*api.Size)
		for i := range image {
			image[i] = byte(i * 7 >> 3)
		}
		d, e := disk.Load(image)
		if e != api.OK {
			t.Fatalf("Load of %d sectors: %v", n, e)
		}
		asNew(t, d, image)
		wantRead(t, d, n-1, image[(n-1)*api.Size:])
	}
}

func TestP102LoadKeepsNothing(t *testing.T) {
	room := append(full('a'), full('b')...)
	d, _ := disk.Load(room[:api.Size])
	d.Write(0, full('c'))
	d.Flush()
	d.Write(0, full('d'))
	d.Crash([]api.Pick{{A: 1, B: 1}})
	if !bytes.Equal(room, append(full('a'), full('b')...)) {
		t.Error("the disk changed the image that was handed in")
	}
	room[0] = 'z'
	wantRead(t, d, 0, full('d'))
}

func TestP103Sectors(t *testing.T) {
	d := fresh(t, 3)
	d.Write(2, full('x'))
	d.Fuse(1)
	d.Flush()
	if d.Sectors() != 3 {
		t.Errorf("burnt: %d sectors", d.Sectors())
	}
	d.Crash(nil)
	d.Take()
	if d.Sectors() != 3 {
		t.Errorf("behind a cut: %d sectors", d.Sectors())
	}
}

func TestP104Read(t *testing.T) {
	d, _ := disk.Load(append(append(full('a'), full('b')...), full('c')...))
	for i, c := range []byte("abc") {
		wantRead(t, d, i, full(c))
	}
	d.Write(1, full('x'))
	wantRead(t, d, 1, full('x'))
	d.Write(1, full('y'))
	wantRead(t, d, 1, full('y'))
	wantRead(t, d, 0, full('a'))
	wantRead(t, d, 2, full('c'))
	d.Flush()
	wantRead(t, d, 1, full('y'))
	d.Write(1, full('b'))
	wantRead(t, d, 1, full('b'))
	wantCounts(t, d, api.Counts{Reads: 9, Writes: 3, Flushes: 1, Pending: 1})
}

func TestP104ReadRefused(t *testing.T) {
	d := fresh(t, 4)
	for _, at := range noSector {
		wantRefusedRead(t, d, at, api.ErrRange)
	}
	d.Fuse(1)
	for range 5 {
		wantRead(t, d, 3, full(0))
	}
	if d.Burnt() {
		t.Error("a Read took from the fuse")
	}
	d.Fuse(0)
	wantRefusedRead(t, d, 0, api.ErrDead)
	for _, at := range noSector {
		wantRefusedRead(t, d, at, api.ErrDead)
	}
	wantCounts(t, d, api.Counts{Reads: 5, Refused: len(noSector)})
}

func TestP105Write(t *testing.T) {
	d := fresh(t, 4)
	room := append(full('x'), full('r')...)
	wantErr(t, "Write", d.Write(0, room[:api.Size]), api.OK)
	if !bytes.Equal(room, append(full('x'), full('r')...)) {
		t.Error("Write changed what it was handed")
	}
	copy(room, full('q'))
	wantRead(t, d, 0, full('x'))
	wantErr(t, "Write of the last sector", d.Write(3, full('y')), api.OK)
	if !bytes.Equal(d.Image(), make([]byte, 4*api.Size)) {
		t.Error("a Write is durable at once")
	}
	d.Flush()
	wantRead(t, d, 0, full('x'))
	wantRead(t, d, 1, full(0))
	wantRead(t, d, 3, full('y'))
}

func TestP105WriteRefused(t *testing.T) {
	d := fresh(t, 4)
	d.Fuse(1)
	for _, at := range noSector {
		wantErr(t, "Write out of range", d.Write(at, full('x')), api.ErrRange)
		wantErr(t, "Write out of range, of no bytes", d.Write(at, nil), api.ErrRange)
	}
	for _, n := range []int{0, 1, 511, 513, 1024} {
		wantErr(t, "Write of a wrong length", d.Write(2, make([]byte, n)), api.ErrLength)
	}
	wantErr(t, "Write of nil", d.Write(2, nil), api.ErrLength)
	wantCounts(t, d, api.Counts{Refused: 2*len(noSector) + 6})
	if d.Burnt() || !bytes.Equal(d.Image(), make([]byte, 4*api.Size)) {
		t.Error("a Write that was refused changed something")
	}
	d.Fuse(0)
	wantErr(t, "burnt", d.Write(0, full('x')), api.ErrDead)
	wantErr(t, "burnt, out of range", d.Write(-1, full('x')), api.ErrDead)
	wantErr(t, "burnt, of a wrong length", d.Write(0, nil), api.ErrDead)
	wantCounts(t, d, api.Counts{Refused: 2*len(noSector) + 6})
}

func TestP106Flush(t *testing.T) {
	d := fresh(t, 4)
	wantErr(t, "Flush of nothing", d.Flush(), api.OK)
	for _, w := range []struct {
		at int
		c  byte
	}{{3, 'a'}, {0, 'b'}, {3, 'c'}, {1, 'd'}, {3, 'e'}} {
		d.Write(w.at, full(w.c))
	}
	wantErr(t, "Flush", d.Flush(), api.OK)
	want := slices.Concat(full('b'), full('d'), full(0), full('e'))
	if !bytes.Equal(d.Image(), want) {
		t.Error("what was flushed is not durable")
	}
	wantCounts(t, d, api.Counts{Writes: 5, Flushes: 2})
	d.Crash([]api.Pick{{A: 1, B: 1}})
	if !bytes.Equal(d.Image(), want) {
		t.Error("what was flushed was still pending")
	}
	d.Write(2, full('z'))
	d.Fuse(0)
	wantErr(t, "burnt", d.Flush(), api.ErrDead)
	wantCounts(t, d, api.Counts{Writes: 6, Flushes: 2, Pending: 1})
	if !bytes.Equal(d.Image(), want) {
		t.Error("a Flush of a burnt disk made something durable")
	}
}

func TestP107Fuse(t *testing.T) {
	for calls := range 6 {
		d := fresh(t, 2)
		d.Fuse(calls)
		for i := range calls {
			if d.Burnt() {
				t.Fatalf("Fuse(%d) is burnt behind %d calls", calls, i)
			}
			e := d.Flush
			if i%2 == 0 {
				e = func() api.Errno { return d.Write(1, full('x')) }
			}
			wantErr(t, "a call that the fuse lets through", e(), api.OK)
		}
		if !d.Burnt() {
			t.Errorf("Fuse(%d) is not burnt behind as many calls", calls)
		}
		wantErr(t, "burnt Write", d.Write(0, full('x')), api.ErrDead)
		wantErr(t, "burnt Flush", d.Flush(), api.ErrDead)
	}
}

func TestP107FuseAnew(t *testing.T) {
	d := fresh(t, 2)
	d.Fuse(1)
	d.Fuse(3)
	d.Flush()
	d.Flush()
	if d.Burnt() {
		t.Error("the first fuse was not forgotten")
	}
	for _, none := range []int{-1, -2, math.MinInt} {
		d.Fuse(1)
		d.Fuse(none)
		for range 50 {
			wantErr(t, "Write without a fuse", d.Write(0, full('x')), api.OK)
		}
	}
	d.Fuse(math.MaxInt)
	wantErr(t, "Flush with a long fuse", d.Flush(), api.OK)
	d.Fuse(0)
	for _, calls := range []int{-1, 0, 1, 100} {
		d.Fuse(calls)
		if !d.Burnt() {
			t.Errorf("Fuse(%d) woke a burnt disk", calls)
		}
	}
	d.Take()
	if !d.Burnt() {
		t.Error("Take woke a burnt disk")
	}
	d.Crash(nil)
	if d.Burnt() {
		t.Error("burnt behind a cut")
	}
	for range 200 {
		wantErr(t, "behind a cut there is no fuse", d.Flush(), api.OK)
	}
	d.Fuse(2)
	d.Crash(nil)
	for range 200 {
		wantErr(t, "a cut takes away a fuse that is not burnt", d.Flush(), api.OK)
	}
}

func TestP108Refused(t *testing.T) {
	d := fresh(t, 4)
	d.Write(1, full('x'))
	d.Fuse(1)
	wantRefusedRead(t, d, 4, api.ErrRange)
	d.Write(-1, full('y'))
	d.Write(1, full('y')[1:])
	wantCounts(t, d, api.Counts{Writes: 1, Refused: 3, Pending: 1})
	wantRead(t, d, 1, full('x'))
	wantErr(t, "the fuse still lets one through", d.Flush(), api.OK)
	before := d.Image()
	wantRefusedRead(t, d, 1, api.ErrDead)
	wantRefusedRead(t, d, 4, api.ErrDead)
	wantErr(t, "burnt", d.Write(4, nil), api.ErrDead)
	wantErr(t, "burnt", d.Flush(), api.ErrDead)
	wantCounts(t, d, api.Counts{Reads: 1, Writes: 1, Flushes: 1, Refused: 3})
	if !bytes.Equal(d.Image(), before) || d.Life() != 1 {
		t.Error("a call that was refused changed something")
	}
}

// The sector behind each cut: 'o' is durable, then 'x', 'y', 'x' are pending.
func TestP109Candidates(t *testing.T) {
	for _, c := range []struct {
		pick api.Pick
		want []byte
	}{
		{api.Pick{}, full('o')},
		{api.Pick{A: 0, B: 1, Cut: 0}, full('x')},
		{api.Pick{A: 0, B: 1, Cut: 1}, torn('o', 'x', 1)},
		{api.Pick{A: 0, B: 1, Cut: 511}, torn('o', 'x', 511)},
		{api.Pick{A: 0, B: 1, Cut: 512}, full('o')},
		{api.Pick{A: 0, B: 1, Cut: 513}, full('x')},
		{api.Pick{A: 0, B: 1, Cut: 514}, torn('o', 'x', 1)},
		{api.Pick{A: 2, B: 0, Cut: 100}, torn('y', 'o', 100)},
		{api.Pick{A: 1, B: 2, Cut: 256}, torn('x', 'y', 256)},
		{api.Pick{A: 2, B: 3, Cut: 256}, torn('y', 'x', 256)},
		{api.Pick{A: 4, B: 6, Cut: 7}, torn('o', 'y', 7)},
		{api.Pick{A: 7, B: 5, Cut: 7}, full('x')},
		{api.Pick{A: 2, B: 2, Cut: 300}, full('y')},
		{api.Pick{A: -1, B: 2, Cut: 9}, torn('o', 'y', 9)},
		{api.Pick{A: 2, B: -3, Cut: 9}, torn('y', 'o', 9)},
		{api.Pick{A: 2, B: 1, Cut: -1}, full('x')},
		{api.Pick{A: math.MinInt, B: 2, Cut: math.MinInt}, full('y')},
		{api.Pick{A: math.MaxInt, B: 0, Cut: 512}, full('x')},
		{api.Pick{A: 1, B: 0, Cut: math.MaxInt}, torn('x', 'o', math.MaxInt%513)},
	} {
		d, _ := disk.Load(slices.Concat(full('l'), full('o'), full('r')))
		for _, w := range []byte("xyx") {
			d.Write(1, full(w))
		}
		d.Crash([]api.Pick{c.pick})
		wantRead(t, d, 1, c.want)
		if !bytes.Equal(d.Image(), slices.Concat(full('l'), c.want, full('r'))) {
			t.Errorf("%+v: the image is another", c.pick)
		}
	}
}

func TestP109PicksInTurn(t *testing.T) {
	keep, lose := api.Pick{A: 1, B: 1}, api.Pick{}
	half := api.Pick{A: 1, B: 0, Cut: 256}
	for _, c := range []struct {
		picks []api.Pick
		want  []byte
	}{
		{nil, make([]byte, 6*api.Size)},
		{[]api.Pick{}, make([]byte, 6*api.Size)},
		{[]api.Pick{keep}, slices.Concat(full('a'), full(0), full('c'), full('d'), full(0), full('f'))},
		{[]api.Pick{keep, lose}, slices.Concat(full('a'), full(0), full(0), full('d'), full(0), full(0))},
		{[]api.Pick{lose, keep, half}, slices.Concat(full(0), full(0), full('c'), torn('d', 0, 256), full(0), full(0))},
		{[]api.Pick{lose, lose, lose, keep, half}, slices.Concat(full(0), full(0), full(0), full(0), full(0), full('f'))},
	} {
		d := fresh(t, 6)
		for _, at := range []int{5, 2, 0, 3} {
			d.Write(at, full("abcdef"[at]))
		}
		picks := slices.Clone(c.picks)
		d.Crash(picks)
		if !bytes.Equal(d.Image(), c.want) {
			t.Errorf("Crash(%v): the image is another", c.picks)
		}
		if !slices.Equal(picks, c.picks) {
			t.Errorf("Crash changed its picks: %v, were %v", picks, c.picks)
		}
	}
}

// A sector that was written often must not take the place of several sectors in the row of picks.
func TestP109OnePickASector(t *testing.T) {
	d := fresh(t, 3)
	for _, c := range []byte("abc") {
		d.Write(2, full(c))
		d.Write(0, full(c))
	}
	d.Crash([]api.Pick{{A: 2, B: 2}, {A: 3, B: 1, Cut: 10}, {}})
	wantRead(t, d, 0, full('b'))
	wantRead(t, d, 2, torn('c', 'a', 10))
}

func TestP109Behind(t *testing.T) {
	d := fresh(t, 4)
	d.Write(1, full('x'))
	d.Flush()
	d.Write(1, full('y'))
	wantRefusedRead(t, d, 9, api.ErrRange)
	d.Fuse(1)
	d.Write(1, full('z'))
	d.Crash(nil)
	if d.Burnt() || d.Life() != 2 {
		t.Errorf("burnt %v, life %d", d.Burnt(), d.Life())
	}
	wantCounts(t, d, api.Counts{Writes: 3, Flushes: 1, Refused: 1})
	wantRead(t, d, 1, full('x'))
	d.Flush()
	d.Crash([]api.Pick{{A: 1, B: 1}})
	wantRead(t, d, 1, full('x'))
	if d.Life() != 3 {
		t.Errorf("life %d", d.Life())
	}
}

func TestP110Lives(t *testing.T) {
	d, other := fresh(t, 2), fresh(t, 2)
	d.Write(1, full('x'))
	d.Fuse(2)
	for want := 2; want < 6; want++ {
		if got := d.Take(); got != want || d.Life() != want {
			t.Errorf("Take: %d, Life: %d, want %d", got, d.Life(), want)
		}
	}
	wantCounts(t, d, api.Counts{Writes: 1, Pending: 1})
	wantRead(t, d, 1, full('x'))
	if !bytes.Equal(d.Image(), make([]byte, 2*api.Size)) {
		t.Error("Take made something durable")
	}
	wantErr(t, "the fuse is as it was", d.Flush(), api.OK)
	if d.Burnt() {
		t.Error("Take took from the fuse")
	}
	wantErr(t, "the fuse is as it was", d.Flush(), api.OK)
	if !d.Burnt() || d.Take() != 6 || d.Life() != 6 {
		t.Errorf("of a burnt disk: burnt %v, life %d", d.Burnt(), d.Life())
	}
	d.Crash(nil)
	if d.Life() != 7 || other.Life() != 1 {
		t.Errorf("lives %d and %d", d.Life(), other.Life())
	}
}

func TestP111Image(t *testing.T) {
	d := fresh(t, 2)
	d.Write(0, full('x'))
	d.Flush()
	d.Write(0, full('y'))
	d.Write(1, full('z'))
	want := append(full('x'), full(0)...)
	before := d.Counts()
	if !bytes.Equal(d.Image(), want) {
		t.Error("the image is not what is durable")
	}
	d.Fuse(0)
	if !bytes.Equal(d.Image(), want) || d.Sectors() != 2 || d.Life() != 1 || !d.Burnt() || d.Counts() != before {
		t.Error("a burnt disk does not tell what it holds")
	}
	wantCounts(t, d, before)
	d.Crash(nil)
	d.Fuse(1)
	d.Image()
	d.Counts()
	d.Sectors()
	d.Life()
	if d.Burnt() {
		t.Error("telling took from the fuse")
	}
}

func TestP112Counts(t *testing.T) {
	d := fresh(t, 4)
	for range 3 {
		d.Write(2, full('x'))
	}
	d.Write(0, full('x'))
	d.Read(0)
	d.Read(4)
	wantCounts(t, d, api.Counts{Reads: 1, Writes: 4, Refused: 1, Pending: 4})
	d.Flush()
	d.Flush()
	wantCounts(t, d, api.Counts{Reads: 1, Writes: 4, Flushes: 2, Refused: 1})
	d.Write(2, full('x'))
	wantCounts(t, d, api.Counts{Reads: 1, Writes: 5, Flushes: 2, Refused: 1, Pending: 1})
	d.Crash(nil)
	wantCounts(t, d, api.Counts{Reads: 1, Writes: 5, Flushes: 2, Refused: 1})
}

// scribble writes over a list, its spare room and what is appended.
func scribble(b []byte) {
	room := b[:cap(b)]
	for i := range room {
		room[i] = '#'
	}
	_ = append(b, full('#')...)
}

func TestP113NewMemory(t *testing.T) {
	d, _ := disk.Load(append(full('a'), full('b')...))
	d.Write(0, full('x'))
	d.Write(0, full('y'))
	check := func(when string) {
		for at, want := range []byte("yb") {
			first, _ := d.Read(at)
			second, _ := d.Read(at)
			scribble(first)
			if !bytes.Equal(second, full(want)) {
				t.Errorf("%s: two Reads share memory", when)
			}
			wantRead(t, d, at, full(want))
		}
		first, second := d.Image(), d.Image()
		want := bytes.Clone(second)
		scribble(first)
		if !bytes.Equal(second, want) || !bytes.Equal(d.Image(), want) {
			t.Errorf("%s: two images share memory, or the disk's", when)
		}
	}
	check("pending")
	got, _ := d.Read(0)
	d.Flush()
	scribble(got)
	check("flushed")
	got, _ = d.Read(1)
	image := d.Image()
	d.Write(0, full('z'))
	d.Write(1, full('z'))
	d.Crash([]api.Pick{{A: 1, B: 1}})
	if !bytes.Equal(got, full('b')) || !bytes.Equal(image, append(full('y'), full('b')...)) {
		t.Error("what was handed out changes with the disk")
	}
}
