package file_test

import (
	"math"
	"slices"
	"strings"
	"testing"

	"vellum/api"
	"vellum/disk"
	"vellum/file"
	"vellum/store"
	"vellum/trial"
)

// put is a call, and the blocks that it puts.
type put = trial.Call[*file.Files]

func writing(number, off int, data string) func(f *file.Files) api.Errno {
	return func(f *file.Files) api.Errno { return f.WriteAt(number, off, []byte(data)) }
}

func resizing(number, size int) func(f *file.Files) api.Errno {
	return func(f *file.Files) api.Errno { return f.Resize(number, size) }
}

func wiping(number, off, n int) func(f *file.Files) api.Errno {
	return func(f *file.Files) api.Errno { return f.Wipe(number, off, n) }
}

func reading(number, off, n int) func(f *file.Files) api.Errno {
	return func(f *file.Files) api.Errno { _, e := f.ReadAt(number, off, n); return e }
}

// ready is a store with three files. Node 1 has 71000 bytes: its index 0 is in block 3 (full of 'a'), 1 in 4 (full of 'b'), 9 in 5, 10 in 7 behind the single block 6, 138 in 10 behind the double block 8 and the leaf 9. Node 2 has five bytes, in block 11. Node 3 has none.
func ready(t *testing.T) (*disk.Disk, *store.Store, *file.Files) {
	t.Helper()
	d, s, f := fresh(t, small, 3)
	writes(t, f, 1, 0, strings.Repeat("a", 512)+strings.Repeat("b", 512), api.OK)
	writes(t, f, 1, 512*9, "cc", api.OK)
	writes(t, f, 1, 512*10, "dd", api.OK)
	writes(t, f, 1, 512*138+200, "ee", api.OK)
	resizes(t, f, 1, 71000, api.OK)
	writes(t, f, 2, 0, "hello", api.OK)
	return d, s, trial.Filled(t, s, next(t, s, f), 12, on)
}

var step = strings.Repeat("w", 4096)

var puts = []put{
	{What: "ReadAt", Do: reading(1, 0, 65536)},
	{What: "WriteAt of nothing", Do: writing(1, 71001, "")},
	{What: "WriteAt of what is there", Do: writing(1, 500, strings.Repeat("a", 12)+"bbb")},
	{What: "WriteAt in a block", Puts: []int{3}, Do: writing(1, 7, "A")},
	{What: "WriteAt in two blocks", Puts: []int{3, 4}, Do: writing(1, 511, "AB")},
	{What: "WriteAt in two blocks, one of them as it is", Puts: []int{4}, Do: writing(1, 511, "aB")},
	{What: "WriteAt over the size", Puts: []int{2, 11}, Do: writing(2, 4, "o!")},
	{What: "WriteAt over the size, of zeros", Puts: []int{2}, Do: writing(2, 5, "\x00\x00")},
	{What: "WriteAt in a hole", Puts: []int{0, 2, 12}, Do: writing(1, 1024, "c")},
	{What: "WriteAt of zeros in a hole", Puts: []int{0, 2, 12}, Do: writing(1, 1024, "\x00")},
	{What: "WriteAt in the single block", Puts: []int{0, 2, 6, 12}, Do: writing(1, 512*11, "f")},
	{What: "WriteAt with a single block", Puts: []int{0, 2, 12, 13}, Do: writing(2, 512*11, "f")},
	{What: "WriteAt in the leaf", Puts: []int{0, 2, 9, 12}, Do: writing(1, 512*139, "f")},
	{What: "WriteAt with a leaf", Puts: []int{0, 2, 8, 12, 13}, Do: writing(1, 8459263, "f")},
	{What: "WriteAt of a window", Puts: []int{0, 2, 3, 4, 12, 13, 14, 15, 16, 17}, Do: writing(1, 0, step)},
	{What: "WriteAt of a window over the seam", Puts: []int{0, 2, 12, 13, 14, 15, 16, 17, 18, 19, 20, 21, 22}, Do: writing(3, 69632, step)},
	{What: "Resize to the size", Do: resizing(1, 71000)},
	{What: "Resize to more", Puts: []int{2}, Do: resizing(1, 8459264)},
	{What: "Resize to less, where zeros are", Puts: []int{2}, Do: resizing(1, 70999)},
	{What: "Resize to less, in a block", Puts: []int{2, 11}, Do: resizing(2, 1)},
	{What: "Resize to less, of a leaf that goes", Puts: []int{0, 2}, Do: resizing(1, 512*138)},
	{What: "Resize to less, in the single block", Puts: []int{0, 2, 7}, Do: resizing(1, 512*10+1)},
	{What: "Resize to less, of the single block", Puts: []int{0, 2}, Do: resizing(1, 512*10)},
	{What: "Resize to less, of direct ones", Puts: []int{0, 2, 4}, Do: resizing(1, 1000)},
	{What: "Resize to none", Puts: []int{0, 2}, Do: resizing(1, 0)},
	{What: "Resize of none to none", Do: resizing(3, 0)},
	{What: "Wipe of no byte", Do: wiping(1, 5, 0)},
	{What: "Wipe behind the size", Do: wiping(1, 71000, math.MaxInt)},
	{What: "Wipe in a hole", Do: wiping(1, 1024, 3000)},
	{What: "Wipe of zeros", Do: wiping(1, 512*9+2, 100)},
	{What: "Wipe in a block", Puts: []int{3}, Do: wiping(1, 3, 100)},
	{What: "Wipe to a block's end", Puts: []int{3}, Do: wiping(1, 1, 511)},
	{What: "Wipe from a block's begin", Puts: []int{4}, Do: wiping(1, 512, 511)},
	{What: "Wipe over two blocks", Puts: []int{3, 4}, Do: wiping(1, 511, 2)},
	{What: "Wipe of a block", Puts: []int{0, 2}, Do: wiping(1, 0, 512)},
	{What: "Wipe of a block and more", Puts: []int{0, 2, 4}, Do: wiping(1, 0, 513)},
	{What: "Wipe of a block and less", Puts: []int{0, 2, 3}, Do: wiping(1, 511, 513)},
	{What: "Wipe of the last block", Puts: []int{0, 2}, Do: wiping(2, 0, 5)},
	{What: "Wipe in the last block", Puts: []int{11}, Do: wiping(2, 1, 5)},
	{What: "Wipe over the seams", Puts: []int{0, 2, 3, 10}, Do: wiping(1, 7, 512*138+194)},
	{What: "Wipe of all", Puts: []int{0, 2}, Do: wiping(1, 0, 71000)},
	{What: "ReadAt of no number", Do: reading(5, 0, 1), Want: api.ErrRange},
	{What: "ReadAt of none", Do: reading(4, 0, 1), Want: api.ErrNode},
	{What: "ReadAt of too much", Do: reading(1, 0, 65537), Want: api.ErrLong},
	{What: "WriteAt of none", Do: writing(4, 0, "a"), Want: api.ErrNode},
	{What: "WriteAt over a window", Do: writing(1, 4095, "ab"), Want: api.ErrStep},
	{What: "WriteAt behind the end", Do: writing(1, 8459264, "a"), Want: api.ErrBig},
	{What: "Resize of none", Do: resizing(4, 0), Want: api.ErrNode},
	{What: "Resize to too much", Do: resizing(1, 8459265), Want: api.ErrBig},
	{What: "Wipe of none", Do: wiping(4, 0, 1), Want: api.ErrNode},
	{What: "Wipe of less than none", Do: wiping(1, 0, -1), Want: api.ErrArg},
}

func putting(t *testing.T) *trial.Puts[*file.Files] {
	p := &trial.Puts[*file.Files]{
		T:       t,
		Ready:   func() (*disk.Disk, *store.Store, *file.Files) { return ready(t) },
		Refused: func(f *file.Files, want api.Errno) { asks(t, f, want) },
		Calls:   puts,
	}
	for b := 23; b < 43; b++ { // behind the blocks that may be taken
		p.Others = append(p.Others, b)
	}
	return p
}

func TestP901Puts(t *testing.T)   { putting(t).Blocks() }
func TestP901Budget(t *testing.T) { putting(t).Budget() }

// The most that a Wipe puts: two leaves, the double block, the bitmap, the table's block, and a block at each end.
func TestP901WipePuts(t *testing.T) {
	d, s, f := fresh(t, api.Super{Sectors: 200, Log: 18, Nodes: 4}, 1)
	var want sheet
	for _, index := range []int{138, 139, 140, 266, 267, 394, 395, 396} {
		data := strings.Repeat("g", 512)
		writes(t, f, 1, 512*index, data, api.OK)
		want = want.write(512*index, data)
		f = next(t, s, f)
	}
	from, to := 512*139+5, 512*396+9
	was, wrote := blocks(t, f), d.Counts().Writes
	wipes(t, f, 1, from, to-from, api.OK)
	holds(t, f, 1, want.wipe(from, to-from))
	if list := unlike(was, blocks(t, f)); len(list) != 7 || !slices.Contains(list, 0) || !slices.Contains(list, 2) {
		t.Fatalf("Wipe has put %v", list)
	}
	if d.Counts().Writes != wrote {
		t.Fatal("Wipe has written")
	}
	f = undone(t, s, f)
	trial.PutMany(t, f, 150, 9)
	wipes(t, f, 1, from, to-from, api.OK)
	f = undone(t, s, f)
	trial.PutMany(t, f, 150, 10)
	wipes(t, f, 1, from, to-from, api.ErrBudget)
}

// A write goes index by index: of no space and no room the one that comes first is told.
func TestP901RisingOrder(t *testing.T) {
	for _, c := range []struct {
		what       string
		free, puts int
		want       api.Errno
	}{
		{"both", 1, 14, api.ErrNoSpace}, // the bitmap and the first fresh block fill the room; the slot was put
		{"room goes first", 1, 15, api.ErrBudget},
		{"no space at the first", 0, 16, api.ErrNoSpace},
		{"no room for the second", 9, 13, api.ErrBudget},
	} {
		_, s, f := fresh(t, small, 1)
		takeTo(t, f, c.free)
		f = trial.Filled(t, s, next(t, s, f), 43-c.free, on)
		if c.puts == 14 {
			n := load(t, f, 1)
			n.Links = 1
			is(t, "Save", f.Save(1, n), api.OK)
			trial.PutMany(t, f, 10, 13)
		} else {
			trial.PutMany(t, f, 10, c.puts)
		}
		is(t, c.what, f.WriteAt(1, 0, []byte(step[:1536])), c.want)
		asks(t, f, c.want)
	}
}
