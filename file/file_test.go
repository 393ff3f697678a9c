package file_test

import (
	"bytes"
	"math"
	"slices"
	"strings"
	"testing"

	"vellum/api"
	"vellum/disk"
	"vellum/file"
	"vellum/node"
	"vellum/pool"
	"vellum/span"
	"vellum/store"
	"vellum/trial"
)

var (
	small = api.Super{Sectors: 64, Log: 18, Nodes: 4}   // of the chapter's examples: Blocks 43, Data 3
	wide  = api.Super{Sectors: 400, Log: 18, Nodes: 8}  // Blocks 379, Data 4
	large = api.Super{Sectors: 2048, Log: 18, Nodes: 4} // Blocks 2027, Data 3
)

// Short names of what the tests of all views share.
var (
	is      = trial.Is
	fill    = trial.Fill
	newDice = trial.NewDice
	unlike  = trial.Unlike
	get     = trial.Get
	blocks  = trial.Blocks
	left    = trial.Left
	takeTo  = trial.TakeTo
)

func on(tx *store.Tx) *file.Files { return file.On(span.On(node.On(pool.On(tx)))) }

func begun(t *testing.T, s *store.Store) *file.Files {
	t.Helper()
	return on(trial.Begun(t, s))
}

// next commits, and begins another transaction.
func next(t *testing.T, s *store.Store, f *file.Files) *file.Files {
	t.Helper()
	return trial.Next(t, s, f, on)
}

// undone aborts, and begins another transaction.
func undone(t *testing.T, s *store.Store, f *file.Files) *file.Files {
	t.Helper()
	is(t, "Abort", f.Abort(), api.OK)
	return begun(t, s)
}

// fresh is a store of that form with so many files, committed, and the files on a new transaction.
func fresh(t *testing.T, form api.Super, files int) (*disk.Disk, *store.Store, *file.Files) {
	t.Helper()
	return trial.Fresh(t, form, files, on)
}

func reads(t *testing.T, f *file.Files, number, off, n int, want string, wantE api.Errno) {
	t.Helper()
	if data, e := f.ReadAt(number, off, n); string(data) != want || e != wantE {
		t.Fatalf("ReadAt(%d, %d, %d): %d bytes, %v, want %d bytes, %v; unlike from byte %d on", number, off, n, len(data), e, len(want), wantE, unlikeAt(string(data), want))
	}
}

func writes(t *testing.T, f *file.Files, number, off int, data string, want api.Errno) {
	t.Helper()
	if e := f.WriteAt(number, off, []byte(data)); e != want {
		t.Fatalf("WriteAt(%d, %d, %d bytes): %v, want %v", number, off, len(data), e, want)
	}
}

func resizes(t *testing.T, f *file.Files, number, size int, want api.Errno) {
	t.Helper()
	if e := f.Resize(number, size); e != want {
		t.Fatalf("Resize(%d, %d): %v, want %v", number, size, e, want)
	}
}

func wipes(t *testing.T, f *file.Files, number, off, n int, want api.Errno) {
	t.Helper()
	if e := f.Wipe(number, off, n); e != want {
		t.Fatalf("Wipe(%d, %d, %d): %v, want %v", number, off, n, e, want)
	}
}

func load(t *testing.T, f *file.Files, number int) api.Node {
	t.Helper()
	n, e := f.Load(number)
	is(t, "Load", e, api.OK)
	return n
}

// stat asks for the size and the blocks of node 1, and for what is free.
func stat(t *testing.T, f *file.Files, size, owned, free int) {
	t.Helper()
	n := load(t, f, 1)
	if n.Size != size || n.Owned != owned || left(t, f) != free {
		t.Fatalf("size %d, owned %d, %d free, want %d, %d, %d", n.Size, n.Owned, left(t, f), size, owned, free)
	}
}

// text draws so many bytes, none of them 0.
func text(dice *trial.Dice, n int) string {
	data := dice.Bytes(n)
	for i := range data {
		data[i] = 1 + data[i]%255
	}
	return string(data)
}

// asks makes every call, with arguments that are right and wrong, and wants of each that error and nothing beside it.
func asks(t *testing.T, f *file.Files, want api.Errno) {
	t.Helper()
	for _, number := range []int{math.MinInt, 0, 1, 2, 5, math.MaxInt} {
		for _, off := range []int{math.MinInt, -1, 0, 5, 4095, 8459264, 8459265, math.MaxInt} {
			for _, n := range []int{-1, 0, 1, 65536, math.MaxInt} {
				reads(t, f, number, off, n, "", want)
				wipes(t, f, number, off, n, want)
			}
			writes(t, f, number, off, "", want)
			writes(t, f, number, off, "ab", want)
			resizes(t, f, number, off, want)
		}
	}
}

func TestP901Example1To3(t *testing.T) {
	_, _, f := fresh(t, small, 1)
	writes(t, f, 1, 0, "hello", api.OK)
	reads(t, f, 1, 1, 3, "ell", api.OK)
	reads(t, f, 1, 3, 100, "lo", api.OK)
	reads(t, f, 1, 5, 1, "", api.OK)
	reads(t, f, 1, 1<<62, 65536, "", api.OK)
	writes(t, f, 1, 6000, "x", api.OK)
	stat(t, f, 6001, 3, 37)
	reads(t, f, 1, 4, 3, "o\x00\x00", api.OK)
	resizes(t, f, 1, 3, api.OK)
	stat(t, f, 3, 1, 39)
	resizes(t, f, 1, 600, api.OK)
	reads(t, f, 1, 0, 6, "hel\x00\x00\x00", api.OK)
	holds(t, f, 1, sheet{}.write(0, "hel").resize(600))
}

func TestP901Example4(t *testing.T) {
	_, s, f := fresh(t, small, 1)
	writes(t, f, 1, 4095, "ab", api.ErrStep)
	writes(t, f, 1, 4096, strings.Repeat("y", 4096), api.OK)
	writes(t, f, 1, 0, strings.Repeat("y", 4097), api.ErrStep)
	writes(t, f, 1, 8459264, "x", api.ErrBig)
	f = next(t, s, f)
	was := load(t, f, 1).Owned
	writes(t, f, 1, 8459263, "x", api.OK)
	if n := load(t, f, 1); n.Owned != was+3 || n.Size != 8459264 {
		t.Fatalf("node %+v, and %d were owned", n, was)
	}
	f = next(t, s, f)
	writes(t, f, 1, 8459264, "", api.OK)
	writes(t, f, 1, 8459265, "", api.ErrBig)
	reads(t, f, 1, 8459260, 9, "\x00\x00\x00x", api.OK)
}

func TestP901Example5(t *testing.T) {
	_, s, f := fresh(t, small, 1)
	all := strings.Repeat("a", 1200)
	writes(t, f, 1, 0, all, api.OK)
	f = next(t, s, f)
	zeros := func(from, to int) string { return all[:from] + string(make([]byte, to-from)) + all[to:] }
	for _, c := range []struct {
		off, n        int
		bytes, blocks string
	}{
		{100, 500, zeros(100, 600), "xxx"},
		{512, 512, zeros(512, 1024), "x.x"},
		{1024, 176, zeros(1024, 1200), "xx."},
		{1024, 175, zeros(1024, 1199), "xxx"},
		{0, 1<<63 - 1, zeros(0, 1200), "..."},
	} {
		wipes(t, f, 1, c.off, c.n, api.OK)
		holds(t, f, 1, sheet{c.bytes, c.blocks})
		f = undone(t, s, f)
	}
}

func TestP901Example6(t *testing.T) {
	_, _, f := fresh(t, small, 1)
	reads(t, f, 1, -1, -1, "", api.ErrArg)
	reads(t, f, 1, 0, 65537, "", api.ErrLong)
	reads(t, f, 0, -1, 0, "", api.ErrRange)
	reads(t, f, 5, 0, 0, "", api.ErrRange)
	reads(t, f, 2, 0, 0, "", api.ErrNode)
	resizes(t, f, 2, -1, api.ErrArg)
	resizes(t, f, 1, 8459265, api.ErrBig)
}

func TestP901Example7(t *testing.T) {
	_, s, f := fresh(t, small, 1)
	takeTo(t, f, 2)
	f = next(t, s, f)
	was := blocks(t, f)
	writes(t, f, 1, 0, strings.Repeat("z", 1536), api.ErrNoSpace)
	reads(t, f, 1, 0, 1, "", api.ErrNoSpace)
	asks(t, f, api.ErrNoSpace)
	f = undone(t, s, f)
	if list := unlike(was, blocks(t, f)); list != nil {
		t.Fatalf("P7: behind the Abort %v are unlike", list)
	}
}

// The methods of all that lies below are the files' too, and On asks for nothing, whatever has become of the transaction.
func TestP901On(t *testing.T) {
	d, s, f := fresh(t, small, 1)
	is(t, "Abort", f.Abort(), api.OK)
	tx := trial.Begun(t, s)
	m := span.On(node.On(pool.On(tx)))
	was := d.Counts()
	f = file.On(m)
	if f == nil || f.Map != m || f.Table != m.Table || f.Pool != m.Pool || f.Tx != tx {
		t.Fatal("On: no files on that map")
	}
	if d.Counts() != was {
		t.Fatalf("On: the disk was asked %+v, and %+v before", d.Counts(), was)
	}
	writes(t, f, 1, 3, "a", api.OK)
	reads(t, file.On(m), 1, 3, 9, "a", api.OK) // another one on that map
	is(t, "Commit", tx.Commit(), api.OK)
	reads(t, file.On(m), 1, 3, 1, "", api.ErrEnded)
	d.Crash(nil)
	reads(t, file.On(m), 1, 3, 1, "", api.ErrDead)
}

// What has become of the transaction is told ahead of all else, by every call.
func TestP901State(t *testing.T) {
	for _, c := range trial.Endings() {
		d, s, f := fresh(t, small, 1)
		writes(t, f, 1, 0, "abc", api.OK)
		c.End(d, s, f.Tx)
		asks(t, f, c.Want)
	}
}

// rule is an error, and whether it applies.
type rule struct {
	wrong bool
	e     api.Errno
}

// first is the error of the first rule that applies.
func first(rules ...rule) api.Errno {
	for _, r := range rules {
		if r.wrong {
			return r.e
		}
	}
	return api.OK
}

var (
	numbers = []int{math.MinInt, -1, 0, 1, 2, 4, 5, 1 << 32, 1<<32 + 1, math.MaxInt} // of these, node 1 alone is there
	offs    = []int{math.MinInt, math.MinInt + 1, -4096, -1, 0, 1, 511, 4095, 4096, 65536, 8459263, 8459264, 8459265, 1 << 32, 1 << 62, math.MaxInt - 4096, math.MaxInt - 1, math.MaxInt}
	lengths = []int{math.MinInt, -1, 0, 1, 2, 4096, 4097, 65535, 65536, 65537, 8459264, 1 << 32, 1 << 62, math.MaxInt - 1, math.MaxInt}
)

// TestP901Errors holds every answer to wrong arguments against the rules of the call, in their order; also where there is no room for anything, which comes last of all.
func TestP901Errors(t *testing.T) {
	for _, room := range []bool{true, false} {
		_, s, f := fresh(t, small, 1)
		writes(t, f, 1, 0, "hello", api.OK)
		f = next(t, s, f)
		if !room {
			is(t, "Put", f.Put(0, fill(255)), api.OK)
			trial.PutMany(t, f, 20, 15)
		}
		was := blocks(t, f)
		do := func(what string, want api.Errno, call func() api.Errno) {
			t.Helper()
			if want == api.OK && !room {
				return // that is for other tests
			}
			is(t, what, call(), want)
			is(t, "State", f.State(), api.OK)
			if want == api.OK {
				f = undone(t, s, f)
			}
		}
		for _, number := range numbers {
			out, none := rule{number < 1 || number > 4, api.ErrRange}, rule{number != 1, api.ErrNode}
			for _, off := range offs {
				back := rule{off < 0, api.ErrArg}
				big := rule{off > 8459264, api.ErrBig}
				do("Resize", first(out, back, big, none), func() api.Errno { return f.Resize(number, off) })
				for _, n := range lengths {
					less, long := rule{n < 0, api.ErrArg}, rule{n > 65536, api.ErrLong}
					do("ReadAt", first(out, back, less, long, none), func() api.Errno { _, e := f.ReadAt(number, off, n); return e })
					do("Wipe", first(out, back, less, none), func() api.Errno { return f.Wipe(number, off, n) })
				}
				for _, n := range []int{0, 1, 2, 4096, 4097, 65536} {
					end := uint64(off) + uint64(n) // of two numbers that are not below 0 no sum runs over
					big, step := rule{end > 8459264, api.ErrBig}, rule{n > 0 && uint64(off)/4096 != (end-1)/4096, api.ErrStep}
					do("WriteAt", first(out, back, big, step, none), func() api.Errno { return f.WriteAt(number, off, make([]byte, n)) })
				}
			}
		}
		if list := unlike(was, blocks(t, f)); list != nil {
			t.Fatalf("P4: the blocks %v are changed", list)
		}
	}
}

// Data that is longer than a file can be is told by that, not by the window.
func TestP901Big(t *testing.T) {
	_, _, f := fresh(t, small, 1)
	for _, c := range []struct {
		off, n int
		want   api.Errno
	}{
		{0, 8459265, api.ErrBig}, {0, 8459264, api.ErrStep}, {1, 8459264, api.ErrBig}, {4096, 8459264, api.ErrBig}, {8459263, 2, api.ErrBig}, {8459264, 1, api.ErrBig}, {math.MaxInt, 8459265, api.ErrBig},
	} {
		is(t, "WriteAt", f.WriteAt(1, c.off, make([]byte, c.n)), c.want)
	}
}

// A slot that is broken is told behind wrong arguments.
func TestP901BrokenSlot(t *testing.T) {
	for what, call := range map[string]func(f *file.Files, wrong bool) (api.Errno, api.Errno){
		"ReadAt": func(f *file.Files, wrong bool) (api.Errno, api.Errno) {
			if wrong {
				_, e := f.ReadAt(1, 0, 65537)
				return e, api.ErrLong
			}
			data, e := f.ReadAt(1, 0, 0)
			if len(data) > 0 {
				t.Fatal("P4: bytes beside an error")
			}
			return e, api.ErrCorrupt
		},
		"WriteAt": func(f *file.Files, wrong bool) (api.Errno, api.Errno) {
			if wrong {
				return f.WriteAt(1, 4095, []byte("ab")), api.ErrStep
			}
			return f.WriteAt(1, 0, nil), api.ErrCorrupt
		},
		"Resize": func(f *file.Files, wrong bool) (api.Errno, api.Errno) {
			if wrong {
				return f.Resize(1, 8459265), api.ErrBig
			}
			return f.Resize(1, 0), api.ErrCorrupt
		},
		"Wipe": func(f *file.Files, wrong bool) (api.Errno, api.Errno) {
			if wrong {
				return f.Wipe(1, 0, -1), api.ErrArg
			}
			return f.Wipe(1, 0, 0), api.ErrCorrupt
		},
	} {
		_, _, f := fresh(t, small, 1)
		is(t, "Put", f.Put(2, fill('x')), api.OK)
		for _, wrong := range []bool{true, false} {
			got, want := call(f, wrong)
			is(t, what, got, want)
		}
		asks(t, f, api.ErrCorrupt)
	}
}

// edges are bytes at which a window, a block or another pointer begins, and those beside them.
var edges = []int{0, 1, 2, 511, 512, 513, 1023, 1024, 1535, 1536, 1537, 3000, 4095, 4096, 4097, 5119, 5120, 5121, 5631, 5632, 8191, 8192, 69632, 70655, 70656, 70657, 71167, 71168, 71169, 71199, 71200, 71201, 73728, 135679, 135680, 136191, 136192, 136193, 136200}

// desk is a store with files of four kinds of content, committed, on blocks that held something else.
func desk(t *testing.T) (*store.Store, *file.Files, []sheet) {
	t.Helper()
	dice := newDice(900)
	_, s, f := fresh(t, wide, 5)
	for b := f.Layout().Data; b < f.Layout().Blocks; b++ {
		is(t, "Put", f.Put(b, fill('j')), api.OK)
		if b%16 == 0 {
			f = next(t, s, f)
		}
	}
	sheets := make([]sheet, 6) // node 1 stays empty
	write := func(number, off, n int) {
		data := text(dice, n)
		writes(t, f, number, off, data, api.OK)
		sheets[number] = sheets[number].write(off, data)
		f = next(t, s, f)
	}
	write(2, 0, 5)
	for off := 0; off < 5700; off += 4096 { // all blocks are there; no size of whole blocks
		write(3, off, min(4096, 5700-off))
	}
	for off := 0; off < 1536; off += 512 { // whole blocks
		write(4, off, 512)
	}
	for _, at := range []int{100, 3000, 5100, 69000, 70600, 71100, 135600} { // holes between
		write(5, at, 132)
	}
	resizes(t, f, 5, 136200, api.OK) // and one at the end
	sheets[5] = sheets[5].resize(136200)
	return s, next(t, s, f), sheets
}

// others asks that the nodes but one are as they were.
func others(t *testing.T, f *file.Files, but int, sheets []sheet) {
	t.Helper()
	for number := 1; number < len(sheets); number++ {
		if number != but {
			holds(t, f, number, sheets[number])
		}
	}
}

// The tests of every call from each edge begin with what they begin with.
func TestP901Desk(t *testing.T) {
	_, f, sheets := desk(t)
	others(t, f, 0, sheets)
}

func TestP901EveryRead(t *testing.T) {
	t.Parallel()
	_, f, sheets := desk(t)
	was := blocks(t, f)
	for number := 1; number < len(sheets); number++ {
		for _, off := range append(edges, 1<<32, math.MaxInt) {
			for _, n := range []int{0, 1, 2, 511, 512, 513, 1024, 4096, 5000, 65535, 65536} {
				reads(t, f, number, off, n, sheets[number].read(off, n), api.OK)
			}
		}
	}
	if list := unlike(was, blocks(t, f)); list != nil {
		t.Fatalf("P901: ReadAt has put %v", list)
	}
}

func TestP901EveryWrite(t *testing.T) {
	t.Parallel()
	s, f, sheets := desk(t)
	dice := newDice(901)
	for number := 1; number < len(sheets); number++ {
		for _, off := range edges {
			for _, n := range []int{0, 1, 2, 511, 512, 513, 1024, 2048, 4095, 4096} {
				data := text(dice, n)
				if off%4096+n > 4096 {
					writes(t, f, number, off, data, api.ErrStep)
					continue
				}
				writes(t, f, number, off, data, api.OK)
				reads(t, f, number, off, n, data, api.OK)
				holds(t, f, number, sheets[number].write(off, data))
				others(t, f, number, sheets[:5])
				f = undone(t, s, f)
			}
		}
	}
}

// From each size to each other, and on to a greater one: what was cut off comes back as zeros.
func TestP901EveryResize(t *testing.T) {
	t.Parallel()
	s, f, sheets := desk(t)
	for number := 1; number < len(sheets); number++ {
		for _, size := range edges {
			resizes(t, f, number, size, api.OK)
			want := sheets[number].resize(size)
			holds(t, f, number, want)
			for _, more := range []int{size + 1, size + 600, 140000} {
				resizes(t, f, number, more, api.OK)
				holds(t, f, number, want.resize(more))
				resizes(t, f, number, size, api.OK)
				holds(t, f, number, want)
			}
			others(t, f, number, sheets[:5])
			f = undone(t, s, f)
		}
	}
}

// A size that is not below the node's cuts nothing off, also of what others have laid behind the size; a lower one does.
func TestP901NotLess(t *testing.T) {
	_, _, f := fresh(t, small, 1)
	writes(t, f, 1, 0, "hello", api.OK)
	data := get(t, f, load(t, f, 1).Direct[0])
	copy(data[5:], "junk")
	is(t, "Put", f.Put(load(t, f, 1).Direct[0], data), api.OK)
	_, _, e := f.Grow(1, 7)
	is(t, "Grow", e, api.OK)
	resizes(t, f, 1, 5, api.OK)
	stat(t, f, 5, 2, 38)
	resizes(t, f, 1, 8, api.OK)
	stat(t, f, 8, 2, 38)
	reads(t, f, 1, 0, 99, "hellojun", api.OK)
	resizes(t, f, 1, 7, api.OK)
	stat(t, f, 7, 1, 39)
	resizes(t, f, 1, 9, api.OK)
	reads(t, f, 1, 0, 99, "helloju\x00\x00", api.OK)
}

func TestP901EveryWipe(t *testing.T) {
	t.Parallel()
	s, f, sheets := desk(t)
	for number := 1; number < len(sheets); number++ {
		size := len(sheets[number].bytes)
		near := []int{size - 1, size, size + 1, size/512*512 - 1, size / 512 * 512, size/512*512 + 1}
		near = slices.DeleteFunc(near, func(x int) bool { return x < 0 })
		ends := append(near, 0, 1, 511, 512, 513, 1024, 5119, 5120, 5121, 69632, 70655, 70656, 71168, 71300)
		for _, off := range ends {
			for _, end := range append(ends, math.MaxInt) {
				if end < off {
					continue
				}
				wipes(t, f, number, off, end-off, api.OK)
				holds(t, f, number, sheets[number].wipe(off, end-off))
				others(t, f, number, sheets[:5])
				f = undone(t, s, f)
			}
		}
	}
}

// off and n may be as great as an int can be.
func TestP901Sums(t *testing.T) {
	s, f, sheets := desk(t)
	for _, off := range []int{0, 1, 700, 5699, 5700, 5701, 1 << 62, math.MaxInt - 1, math.MaxInt} {
		for _, n := range []int{math.MaxInt, math.MaxInt - 1, math.MaxInt - 5700, math.MaxInt - 5699, 1 << 62} {
			wipes(t, f, 3, off, n, api.OK)
			holds(t, f, 3, sheets[3].wipe(off, n))
			f = undone(t, s, f)
		}
		reads(t, f, 3, off, 65536, sheets[3].read(off, 65536), api.OK)
	}
}

// The kind of a node is none of this layer's business, and the fields that are not its own stay.
func TestP901Kinds(t *testing.T) {
	_, _, f := fresh(t, small, 0)
	for number, n := range []api.Node{1: {Kind: api.KDir, Parent: 1, Links: 7}, 2: {Kind: api.KLink, Links: 1}, 3: {Kind: api.KFile, Links: 64}} {
		if number == 0 {
			continue
		}
		_, e := f.Make(n.Kind, n.Parent)
		is(t, "Make", e, api.OK)
		is(t, "Save", f.Save(number, n), api.OK)
		writes(t, f, number, 5000, "abc", api.OK)
		writes(t, f, number, 6000, "def", api.OK)
		resizes(t, f, number, 6001, api.OK)
		wipes(t, f, number, 5001, 1, api.OK)
		holds(t, f, number, sheet{}.write(5000, "a\x00c").write(6000, "d"))
		got := load(t, f, number)
		if got.Kind != n.Kind || got.Parent != n.Parent || got.Links != n.Links {
			t.Fatalf("node %+v, and %+v before", got, n)
		}
		wipes(t, f, number, 0, 9999, api.OK)
		if n.Size = 6001; load(t, f, number) != n {
			t.Fatalf("node %+v, want %+v", load(t, f, number), n)
		}
	}
}

// A file as long as can be: its last index, its last byte.
func TestP901Longest(t *testing.T) {
	_, s, f := fresh(t, small, 1)
	last := 16521 * 512
	resizes(t, f, 1, 8459264, api.OK)
	stat(t, f, 8459264, 0, 40)
	reads(t, f, 1, 8459264-3, 10, "\x00\x00\x00", api.OK)
	reads(t, f, 1, 8459264, 10, "", api.OK)
	writes(t, f, 1, last-512, strings.Repeat("p", 1024), api.OK) // the last window
	writes(t, f, 1, last-513, "pp", api.ErrStep)
	stat(t, f, 8459264, 4, 36)
	f = next(t, s, f)
	reads(t, f, 1, last-513, 65536, "\x00"+strings.Repeat("p", 1024), api.OK)
	wipes(t, f, 1, last+1, math.MaxInt, api.OK)
	stat(t, f, 8459264, 4, 36)
	reads(t, f, 1, last-1, 4, "pp\x00\x00", api.OK)
	wipes(t, f, 1, last, 512, api.OK)
	stat(t, f, 8459264, 3, 37)
	resizes(t, f, 1, 8459263, api.OK)
	resizes(t, f, 1, last, api.OK)
	stat(t, f, last, 3, 37)
	resizes(t, f, 1, last-1, api.OK)
	stat(t, f, last-1, 3, 37)
	wipes(t, f, 1, 0, math.MaxInt, api.OK)
	stat(t, f, last-1, 0, 40)
}

// Two Files on one transaction are as one.
func TestP901TwoFiles(t *testing.T) {
	_, _, f := fresh(t, small, 1)
	other := on(f.Tx)
	writes(t, f, 1, 0, "abcdef", api.OK)
	reads(t, other, 1, 0, 9, "abcdef", api.OK)
	resizes(t, other, 1, 3, api.OK)
	reads(t, f, 1, 0, 9, "abc", api.OK)
	writes(t, f, 1, 600, "x", api.OK)
	wipes(t, other, 1, 0, 600, api.OK)
	reads(t, f, 1, 598, 9, "\x00\x00x", api.OK)
}

// What is handed in is not changed and not kept; what is answered is new memory, its spare room too.
func TestP902NewMemory(t *testing.T) {
	_, _, f := fresh(t, small, 1)
	given := bytes.Repeat([]byte("abc"), 300)
	data := slices.Clone(given)
	is(t, "WriteAt", f.WriteAt(1, 100, data), api.OK)
	if !bytes.Equal(data, given) {
		t.Fatal("P2: WriteAt has changed what it was given")
	}
	clear(data)
	was := blocks(t, f)
	for _, n := range []int{5, 900, 1000} {
		got, e := f.ReadAt(1, 100, n)
		is(t, "ReadAt", e, api.OK)
		got = append(got, 'z')
		clear(got[:cap(got)])
	}
	reads(t, f, 1, 100, 2000, string(given), api.OK)
	if list := unlike(was, blocks(t, f)); list != nil {
		t.Fatalf("P2: the blocks %v are changed", list)
	}
}

// What blocks held that were another's is seen by nobody who did not write it.
func TestP902FreshIsZero(t *testing.T) {
	_, s, f := fresh(t, small, 2)
	for window := range 4 {
		writes(t, f, 1, 4096*window, strings.Repeat("s", 4096), api.OK)
		f = next(t, s, f)
	}
	resizes(t, f, 1, 0, api.OK)
	f = next(t, s, f)
	want := sheet{}
	for off := 100; off < 16000; off += 1000 {
		writes(t, f, 2, off, "n", api.OK)
		want = want.write(off, "n")
		f = next(t, s, f)
	}
	holds(t, f, 2, want)
	f = next(t, s, f)
	holds(t, f, 2, want)
}

// Where no block is free, all that takes none goes on.
func TestP904Full(t *testing.T) {
	_, s, f := fresh(t, small, 2)
	want := sheet{}
	for off := 0; left(t, f) > 0; off += 512 {
		writes(t, f, 1, off, strings.Repeat("q", 512), api.OK)
		want = want.write(off, strings.Repeat("q", 512))
		f = next(t, s, f)
	}
	end := len(want.bytes)
	for off := 0; off < end; off += 4096 {
		data := strings.Repeat("r", min(4096, end-off))
		writes(t, f, 1, off, data, api.OK)
		holds(t, f, 1, want.write(off, data))
		f = undone(t, s, f)
	}
	for _, size := range []int{0, 1, 511, 512, 5120, end - 1, end, end + 1, 70656, 8459264} {
		resizes(t, f, 1, size, api.OK)
		resizes(t, f, 2, size, api.OK)
		holds(t, f, 1, want.resize(size))
		f = undone(t, s, f)
		for _, n := range []int{0, 1, 512, 5000, math.MaxInt} {
			wipes(t, f, 1, size, n, api.OK)
			holds(t, f, 1, want.wipe(size, n))
			f = undone(t, s, f)
		}
	}
	writes(t, f, 1, end-1, "ab", api.ErrNoSpace)
	for _, call := range []func() api.Errno{
		func() api.Errno { return f.Resize(1, 0) },
		func() api.Errno { return f.Wipe(1, 0, end) },
		func() api.Errno { return f.WriteAt(1, 0, []byte("a")) },
	} {
		is(t, "a call of a spoilt transaction", call(), api.ErrNoSpace)
	}
	f = undone(t, s, f)
	writes(t, f, 2, 0, "a", api.ErrNoSpace)
}

// With so many blocks free, a write is let through just if it takes no more.
func TestP904Room(t *testing.T) {
	for _, c := range []struct{ off, n, takes int }{
		{0, 1, 1}, {511, 2, 2}, {0, 4096, 8}, {4096, 4096, 9}, {5119, 2, 3}, {70655, 2, 5}, {69632, 4096, 11}, {135679, 2, 4}, {136191, 2, 5},
	} {
		for free := range c.takes + 2 {
			_, s, f := fresh(t, small, 1)
			takeTo(t, f, free)
			f = next(t, s, f)
			data := strings.Repeat("m", c.n)
			if free < c.takes {
				writes(t, f, 1, c.off, data, api.ErrNoSpace)
				asks(t, f, api.ErrNoSpace)
				f = undone(t, s, f)
				holds(t, f, 1, sheet{})
				continue
			}
			writes(t, f, 1, c.off, data, api.OK)
			stat(t, f, c.off+c.n, c.takes, free-c.takes)
		}
	}
}

// A Wipe of all leaves no block, and so does a Resize to 0.
func TestP904All(t *testing.T) {
	s, f, sheets := desk(t)
	free := left(t, f)
	for number := 1; number < len(sheets); number++ {
		size, owned := len(sheets[number].bytes), load(t, f, number).Owned
		for _, n := range []int{size, size + 1, math.MaxInt} {
			wipes(t, f, number, 0, n, api.OK)
			if load(t, f, number) != (api.Node{Kind: api.KFile, Size: size}) || left(t, f) != free+owned {
				t.Fatalf("P904: node %+v, %d free", load(t, f, number), left(t, f))
			}
			holds(t, f, number, sheet{}.resize(size))
			f = undone(t, s, f)
		}
		resizes(t, f, number, 0, api.OK)
		if load(t, f, number) != (api.Node{Kind: api.KFile}) || left(t, f) != free+owned {
			t.Fatalf("P904: node %+v, %d free", load(t, f, number), left(t, f))
		}
		f = undone(t, s, f)
	}
}

// pieces cuts the bytes from off to end - 1 into pieces within the windows.
func pieces(dice *trial.Dice, off, end int) [][2]int {
	var list [][2]int
	for off < end {
		stop := min(end, off/4096*4096+4096)
		if dice.Below(3) > 0 {
			stop = off + 1 + dice.Below(stop-off)
		}
		list = append(list, [2]int{off, stop})
		off = stop
	}
	return list
}

// A row of bytes in pieces, in any order, is as the row window by window.
func TestP905Pieces(t *testing.T) {
	t.Parallel()
	dice := newDice(905)
	for range 60 {
		_, s, f := fresh(t, api.Super{Sectors: 200, Log: 18, Nodes: 4}, 2)
		off := trial.One(dice, 0, 1, 512, 4000, 65536, 70000, 130000) + dice.Below(700)
		row := text(dice, 1+dice.Below(15000))
		for _, p := range pieces(dice, off, off+len(row)) {
			writes(t, f, 1, p[0], row[p[0]-off:p[1]-off], api.OK)
			f = next(t, s, f)
		}
		whole := sheet{}
		for at := off; at < off+len(row); at = at/4096*4096 + 4096 {
			data := row[at-off : min(len(row), at/4096*4096+4096-off)]
			whole = whole.write(at, data)
		}
		holds(t, f, 1, whole)
		list := pieces(dice, off, off+len(row))
		for len(list) > 0 {
			i := dice.Below(len(list))
			p := list[i]
			list = slices.Delete(list, i, i+1)
			writes(t, f, 2, p[0], row[p[0]-off:p[1]-off], api.OK)
			f = next(t, s, f)
		}
		holds(t, f, 2, whole)
	}
}
