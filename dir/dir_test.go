package dir_test

import (
	"bytes"
	"fmt"
	"math"
	"slices"
	"strconv"
	"strings"
	"testing"

	"vellum/api"
	"vellum/codec"
	"vellum/dir"
	"vellum/disk"
	"vellum/file"
	"vellum/node"
	"vellum/pool"
	"vellum/span"
	"vellum/store"
	"vellum/trial"
)

var (
	small = api.Super{Sectors: 64, Log: 18, Nodes: 8}   // of the chapter's examples: Blocks 43, Data 4
	large = api.Super{Sectors: 2048, Log: 18, Nodes: 8} // Blocks 2027, Data 4
)

// Short names of what the tests of all views share.
var (
	is      = trial.Is
	fill    = trial.Fill
	newDice = trial.NewDice
	unlike  = trial.Unlike
	blocks  = trial.Blocks
	left    = trial.Left
	takeTo  = trial.TakeTo
)

func on(tx *store.Tx) *dir.Dirs { return dir.On(file.On(span.On(node.On(pool.On(tx))))) }

func begun(t *testing.T, s *store.Store) *dir.Dirs {
	t.Helper()
	return on(trial.Begun(t, s))
}

// next commits, and begins another transaction.
func next(t *testing.T, s *store.Store, k *dir.Dirs) *dir.Dirs {
	t.Helper()
	return trial.Next(t, s, k, on)
}

// undone aborts, and begins another transaction.
func undone(t *testing.T, s *store.Store, k *dir.Dirs) *dir.Dirs {
	t.Helper()
	is(t, "Abort", k.Abort(), api.OK)
	return begun(t, s)
}

// makes makes a node of each kind.
func makes(t *testing.T, k *dir.Dirs, kinds ...int) {
	t.Helper()
	for _, kind := range kinds {
		parent := 0
		if kind == api.KDir {
			parent = 1
		}
		_, e := k.Make(kind, parent)
		is(t, "Make", e, api.OK)
	}
}

// fresh is a store of that form with nodes of these kinds, committed, and the directories on a new transaction.
func fresh(t *testing.T, form api.Super, kinds ...int) (*disk.Disk, *store.Store, *dir.Dirs) {
	t.Helper()
	d, s, k := trial.Fresh(t, form, 0, on)
	makes(t, k, kinds...)
	return d, s, next(t, s, k)
}

func looks(t *testing.T, k *dir.Dirs, number int, name string, want api.Entry, wantE api.Errno) {
	t.Helper()
	if entry, e := k.Look(number, name); entry != want || e != wantE {
		t.Fatalf("Look(%d, %q): %+v, %v, want %+v, %v", number, name, entry, e, want, wantE)
	}
}

func missing(t *testing.T, k *dir.Dirs, number int, name string) {
	t.Helper()
	looks(t, k, number, name, api.Entry{}, api.ErrNotFound)
}

func adds(t *testing.T, k *dir.Dirs, number int, name string, named, kind int, want api.Errno) {
	t.Helper()
	if e := k.Add(number, name, named, kind); e != want {
		t.Fatalf("Add(%d, %q, %d, %d): %v, want %v", number, name, named, kind, e, want)
	}
}

func dels(t *testing.T, k *dir.Dirs, number int, name string, want api.Errno) {
	t.Helper()
	if e := k.Del(number, name); e != want {
		t.Fatalf("Del(%d, %q): %v, want %v", number, name, e, want)
	}
}

func swaps(t *testing.T, k *dir.Dirs, number int, name string, named, kind int, want api.Errno) {
	t.Helper()
	if e := k.Swap(number, name, named, kind); e != want {
		t.Fatalf("Swap(%d, %q, %d, %d): %v, want %v", number, name, named, kind, e, want)
	}
}

func lists(t *testing.T, k *dir.Dirs, number int, want ...api.Entry) {
	t.Helper()
	if list, e := k.List(number); e != api.OK || !slices.Equal(list, want) {
		t.Fatalf("List(%d): %+v, %v, want %+v", number, list, e, want)
	}
}

func unlisted(t *testing.T, k *dir.Dirs, number int, want api.Errno) {
	t.Helper()
	if list, e := k.List(number); len(list) > 0 || e != want {
		t.Fatalf("List(%d): %+v, %v, want %v", number, list, e, want)
	}
}

// entry is what is told of a name in a slot.
func entry(name string, named, kind, slot int) api.Entry {
	return api.Entry{Node: named, Kind: kind, Name: name, Slot: slot}
}

// slotted asks in which slots these names of a directory stand.
func slotted(t *testing.T, k *dir.Dirs, number int, slots map[string]int) {
	t.Helper()
	for name, slot := range slots {
		if entry, e := k.Look(number, name); e != api.OK || entry.Slot != slot || entry.Name != name {
			t.Fatalf("Look(%d, %q): %+v, %v, want slot %d", number, name, entry, e, slot)
		}
	}
}

// stat asks for the size and the blocks of a directory.
func stat(t *testing.T, k *dir.Dirs, number, size, owned int) {
	t.Helper()
	n, e := k.Load(number)
	is(t, "Load", e, api.OK)
	if n.Size != size || n.Owned != owned {
		t.Fatalf("node %d: size %d, owned %d, want %d, %d", number, n.Size, n.Owned, size, owned)
	}
}

// numbered are so many names, of which the n-th is its number.
func numbered(n int) []string {
	var names []string
	for i := range n {
		names = append(names, strconv.Itoa(i))
	}
	return names
}

// addAll adds files of these names, with a transaction for each.
func addAll(t *testing.T, s *store.Store, k *dir.Dirs, number int, names ...string) *dir.Dirs {
	t.Helper()
	for _, name := range names {
		adds(t, k, number, name, 2, api.KFile, api.OK)
		k = next(t, s, k)
	}
	return k
}

// delAll takes these names out, with a transaction for each.
func delAll(t *testing.T, s *store.Store, k *dir.Dirs, number int, names ...string) *dir.Dirs {
	t.Helper()
	for _, name := range names {
		dels(t, k, number, name, api.OK)
		k = next(t, s, k)
	}
	return k
}

// record are the bytes of an entry.
func record(t *testing.T, e api.Entry) []byte {
	t.Helper()
	data, errno := codec.EncodeEntry(e)
	is(t, "EncodeEntry", errno, api.OK)
	return data
}

// laid writes a directory of so many entries, of which the n-th is named by its number, as a file is written.
func laid(t *testing.T, s *store.Store, k *dir.Dirs, number, count int) *dir.Dirs {
	t.Helper()
	const step = api.StepBytes / 64
	for slot := 0; slot < count; slot += step {
		var data []byte
		for i := slot; i < min(count, slot+step); i++ {
			data = append(data, record(t, laidEntry(i))...)
		}
		lay(t, k, number, 64*slot, append(data, make([]byte, (512-len(data)%512)%512)...))
		k = next(t, s, k)
	}
	return k
}

// laidEntry is the entry that laid writes into a slot.
func laidEntry(slot int) api.Entry { return entry(strconv.Itoa(slot), 1+slot%8, 1+slot%3, slot) }

// lay writes bytes into a directory as into a file.
func lay(t *testing.T, k *dir.Dirs, number, off int, data []byte) {
	t.Helper()
	is(t, "WriteAt", k.WriteAt(number, off, data), api.OK)
}

var (
	badNumbers = []int{math.MinInt, -1, 0, 9, 1024, 1 << 32, 1<<32 + 1, math.MaxInt} // of nodes, where there are eight
	badNames   = []struct {
		name string
		e    api.Errno
	}{
		{"", api.ErrName}, {".", api.ErrName}, {"..", api.ErrName}, {"/", api.ErrName}, {"x/y", api.ErrName}, {"a\x00", api.ErrName}, {"\x00", api.ErrName},
		{strings.Repeat("x", 55), api.ErrLong}, {strings.Repeat("/", 55), api.ErrLong}, {strings.Repeat("x", 70000), api.ErrLong},
	}
	badKinds = []int{math.MinInt, -1, 0, 4, 257, 1<<32 + 1, math.MaxInt}
)

// asks makes every call, with arguments that are right and wrong, and wants of each that error and nothing beside it.
func asks(t *testing.T, k *dir.Dirs, want api.Errno) {
	t.Helper()
	for _, number := range []int{math.MinInt, 0, 1, 2, 3, 9, math.MaxInt} {
		for _, name := range []string{"a", "b", "0", "zz", "", "/", strings.Repeat("x", 55)} {
			looks(t, k, number, name, api.Entry{}, want)
			dels(t, k, number, name, want)
			for _, named := range []int{0, 1, 9} {
				for _, kind := range []int{0, 1, 4} {
					adds(t, k, number, name, named, kind, want)
					swaps(t, k, number, name, named, kind, want)
				}
			}
		}
		unlisted(t, k, number, want)
	}
}

func TestP1003Example1To2(t *testing.T) {
	_, _, k := fresh(t, small, api.KDir)
	lists(t, k, 1)
	missing(t, k, 1, "a")
	adds(t, k, 1, "b", 2, api.KFile, api.OK)
	adds(t, k, 1, "a", 3, api.KLink, api.OK)
	looks(t, k, 1, "a", entry("a", 3, 3, 1), api.OK)
	lists(t, k, 1, entry("a", 3, 3, 1), entry("b", 2, 1, 0))
	stat(t, k, 1, 512, 1)
	adds(t, k, 1, "a", 4, api.KFile, api.ErrExists)
	swaps(t, k, 1, "a", 4, api.KFile, api.OK)
	looks(t, k, 1, "a", entry("a", 4, 1, 1), api.OK)
	dels(t, k, 1, "b", api.OK)
	adds(t, k, 1, "c", 5, api.KDir, api.OK)
	looks(t, k, 1, "c", entry("c", 5, 2, 0), api.OK)
}

func TestP1004Example3(t *testing.T) {
	_, s, k := fresh(t, small, api.KDir)
	k = addAll(t, s, k, 1, numbered(9)...)
	stat(t, k, 1, 1024, 2)
	slotted(t, k, 1, map[string]int{"8": 8})
	k = delAll(t, s, k, 1, "3")
	stat(t, k, 1, 1024, 2)
	k = delAll(t, s, k, 1, "8")
	stat(t, k, 1, 512, 1)
	k = addAll(t, s, k, 1, "9")
	slotted(t, k, 1, map[string]int{"9": 3})
}

func TestP1005Example4(t *testing.T) {
	_, s, k := fresh(t, small, api.KDir)
	names := numbered(24)
	k = addAll(t, s, k, 1, names...)
	k = delAll(t, s, k, 1, names[8:16]...)
	stat(t, k, 1, 1536, 3)
	for _, name := range names[16:] {
		stat(t, k, 1, 1536, 3)
		k = delAll(t, s, k, 1, name)
	}
	stat(t, k, 1, 512, 1)
	if left(t, k) != 38 {
		t.Fatalf("%d blocks are free", left(t, k))
	}
}

func TestP1001Example5(t *testing.T) {
	_, _, k := fresh(t, small, api.KDir)
	adds(t, k, 1, "", 2, api.KFile, api.ErrName)
	adds(t, k, 1, "x/y", 0, 9, api.ErrName)
	adds(t, k, 1, "x", 0, 9, api.ErrRange)
	adds(t, k, 1, "x", 1, 9, api.ErrArg)
	adds(t, k, 0, "", 0, 0, api.ErrRange)
	adds(t, k, 2, "x", 1, 1, api.ErrNode)
	makes(t, k, api.KFile)
	unlisted(t, k, 2, api.ErrNotDir)
	looks(t, k, 2, "/", api.Entry{}, api.ErrName)
}

func TestP1007Example6(t *testing.T) {
	_, _, k := fresh(t, small, api.KDir)
	for _, name := range []string{"ab", "a", "b", "a.", "\xff"} {
		adds(t, k, 1, name, 1, api.KFile, api.OK)
	}
	lists(t, k, 1, entry("a", 1, 1, 1), entry("a.", 1, 1, 3), entry("ab", 1, 1, 0), entry("b", 1, 1, 2), entry("\xff", 1, 1, 4))
}

func TestP1004Example7(t *testing.T) {
	_, s, k := fresh(t, small, api.KDir)
	k = addAll(t, s, k, 1, numbered(8)...)
	takeTo(t, k, 0)
	k = next(t, s, k)
	adds(t, k, 1, "x", 2, api.KFile, api.ErrNoSpace)
	asks(t, k, api.ErrNoSpace)
	is(t, "Commit", k.Commit(), api.ErrNoSpace)
	k = undone(t, s, k)
	dels(t, k, 1, "5", api.OK)
	adds(t, k, 1, "x", 2, api.KFile, api.OK)
	slotted(t, k, 1, map[string]int{"x": 5})
}

// The methods of all that lies below are the directories' too, and On asks for nothing, whatever has become of the transaction.
func TestP1002On(t *testing.T) {
	d, s, k := fresh(t, small, api.KDir)
	is(t, "Abort", k.Abort(), api.OK)
	tx := trial.Begun(t, s)
	f := file.On(span.On(node.On(pool.On(tx))))
	was := d.Counts()
	k = dir.On(f)
	if k == nil || k.Files != f || k.Map != f.Map || k.Table != f.Table || k.Pool != f.Pool || k.Tx != tx {
		t.Fatal("On: no directories on these files")
	}
	if d.Counts() != was {
		t.Fatalf("On: the disk was asked %+v, and %+v before", d.Counts(), was)
	}
	adds(t, k, 1, "a", 5, 1, api.OK)
	looks(t, dir.On(f), 1, "a", entry("a", 5, 1, 0), api.OK) // others on these files
	looks(t, on(tx), 1, "a", entry("a", 5, 1, 0), api.OK)
	is(t, "Commit", tx.Commit(), api.OK)
	looks(t, dir.On(f), 1, "a", api.Entry{}, api.ErrEnded)
	d.Crash(nil)
	looks(t, dir.On(f), 1, "a", api.Entry{}, api.ErrDead)
}

// What has become of the transaction is told ahead of all else, by every call.
func TestP1001State(t *testing.T) {
	for _, c := range trial.Endings() {
		d, s, k := fresh(t, small, api.KDir, api.KDir, api.KFile)
		adds(t, k, 1, "a", 5, 1, api.OK)
		c.End(d, s, k.Tx)
		asks(t, k, c.Want)
	}
}

// TestP1001Arguments goes through wrong arguments, each with all that comes behind it wrong as well: also where there is no room for anything.
func TestP1001Arguments(t *testing.T) {
	for _, room := range []bool{true, false} {
		_, s, k := fresh(t, small, api.KDir, api.KFile, api.KLink, api.KDir)
		adds(t, k, 1, "a", 5, 1, api.OK)
		lay(t, k, 4, 0, []byte("broken"))
		k = next(t, s, k)
		if !room {
			is(t, "Put", k.Put(0, fill(255)), api.OK)
			trial.PutMany(t, k, 20, 15)
		}
		was := blocks(t, k)
		for _, number := range badNumbers {
			refused(t, k, number, "", 0, 0, api.ErrRange)
			refused(t, k, number, "a", 1, 1, api.ErrRange)
			unlisted(t, k, number, api.ErrRange)
		}
		for _, number := range []int{1, 2, 3, 4, 5, 8} {
			for _, bad := range badNames {
				refused(t, k, number, bad.name, 0, 0, bad.e)
				refused(t, k, number, bad.name, 1, 1, bad.e)
			}
			for _, named := range badNumbers {
				saysRefused(t, k, number, "a", named, 0, api.ErrRange)
				saysRefused(t, k, number, "b", named, 1, api.ErrRange)
			}
			for _, kind := range badKinds {
				saysRefused(t, k, number, "a", 1, kind, api.ErrArg)
				saysRefused(t, k, number, "b", 8, kind, api.ErrArg)
			}
		}
		for _, number := range []int{5, 6, 7, 8} {
			refused(t, k, number, "a", 1, 1, api.ErrNode)
			unlisted(t, k, number, api.ErrNode)
		}
		for _, number := range []int{2, 3} {
			refused(t, k, number, "a", 8, 3, api.ErrNotDir)
			unlisted(t, k, number, api.ErrNotDir)
		}
		adds(t, k, 1, "a", 8, 3, api.ErrExists)
		missing(t, k, 1, "b")
		dels(t, k, 1, "b", api.ErrNotFound)
		swaps(t, k, 1, "b", 8, 3, api.ErrNotFound)
		is(t, "State", k.State(), api.OK)
		if list := unlike(was, blocks(t, k)); list != nil {
			t.Fatalf("P4: the blocks %v are changed", list)
		}
		unlisted(t, k, 4, api.ErrCorrupt)
	}
}

// refused asks the same error of every call that has a name.
func refused(t *testing.T, k *dir.Dirs, number int, name string, named, kind int, want api.Errno) {
	t.Helper()
	looks(t, k, number, name, api.Entry{}, want)
	dels(t, k, number, name, want)
	saysRefused(t, k, number, name, named, kind, want)
}

// saysRefused asks the same error of the two calls that say a node.
func saysRefused(t *testing.T, k *dir.Dirs, number int, name string, named, kind int, want api.Errno) {
	t.Helper()
	adds(t, k, number, name, named, kind, want)
	swaps(t, k, number, name, named, kind, want)
}

// The edges of the arguments that may be.
func TestP1001Edges(t *testing.T) {
	_, _, k := fresh(t, small, api.KDir, api.KFile, api.KFile, api.KFile, api.KFile, api.KFile, api.KFile, api.KDir)
	for i, name := range []string{strings.Repeat("x", 54), "...", " ", "\x01", "a.", ".a", "\xff\xfe"} {
		for _, number := range []int{1, 8} {
			adds(t, k, number, name, 1+7*(i%2), 1+i%3, api.OK)
			looks(t, k, number, name, entry(name, 1+7*(i%2), 1+i%3, i), api.OK)
			swaps(t, k, number, name, 8-7*(i%2), 3-i%3, api.OK)
			looks(t, k, number, name, entry(name, 8-7*(i%2), 3-i%3, i), api.OK)
		}
	}
}

// each makes every call of the face at a directory, once by once, in a transaction of its own.
func each(t *testing.T, s *store.Store, k *dir.Dirs, number int, name string, do func(k *dir.Dirs, what string, e api.Errno)) *dir.Dirs {
	t.Helper()
	for _, c := range []struct {
		what string
		call func() api.Errno
	}{
		{"Look", func() api.Errno {
			entry, e := k.Look(number, name)
			if e != api.OK && entry != (api.Entry{}) {
				t.Fatalf("P4: %+v beside %v", entry, e)
			}
			return e
		}},
		{"Add", func() api.Errno { return k.Add(number, name, 2, 1) }},
		{"Del", func() api.Errno { return k.Del(number, name) }},
		{"Swap", func() api.Errno { return k.Swap(number, name, 2, 1) }},
		{"List", func() api.Errno {
			list, e := k.List(number)
			if e != api.OK && len(list) > 0 {
				t.Fatalf("P4: %+v beside %v", list, e)
			}
			return e
		}},
	} {
		do(k, c.what, c.call())
		k = undone(t, s, k)
	}
	return k
}

// corrupt asks that every call at a directory is refused with ErrCorrupt, whichever name it has, and that this spoils.
func corrupt(t *testing.T, why string, s *store.Store, k *dir.Dirs, number int) *dir.Dirs {
	t.Helper()
	for _, name := range []string{"0", "3", "none"} {
		k = each(t, s, k, number, name, func(k *dir.Dirs, what string, e api.Errno) {
			t.Helper()
			is(t, why+": "+what, e, api.ErrCorrupt)
			is(t, why+": State", k.State(), api.ErrCorrupt)
			looks(t, k, 2, "a", api.Entry{}, api.ErrCorrupt)
			unlisted(t, k, 2, api.ErrCorrupt)
		})
	}
	return k
}

// A slot that is broken is told by every call, wherever it lies and whatever name is asked for.
func TestP1001BrokenSlot(t *testing.T) {
	for _, slot := range []int{0, 3, 7, 8, 15, 16, 20, 23} {
		for at, bad := range map[int][]byte{
			0:  {9},                      // the node
			5:  {200},                    // a name that is longer than may be
			6:  {'/'},                    // no such name
			12: {1},                      // behind the name
			59: {255},                    // the last byte of it
			60: {0x5a, 0xa5, 0x5a, 0xa5}, // the sum
		} {
			_, s, k := fresh(t, small, api.KDir, api.KDir)
			k = addAll(t, s, k, 1, numbered(18)...)
			is(t, "Resize", k.Resize(1, 1536), api.OK)
			adds(t, k, 2, "a", 1, 1, api.OK)
			lay(t, k, 1, 64*slot+at, bad)
			k = next(t, s, k)
			k = corrupt(t, "slot "+strconv.Itoa(slot)+", byte "+strconv.Itoa(at), s, k, 1)
			looks(t, k, 2, "a", entry("a", 1, 1, 0), api.OK) // of another directory
		}
	}
}

// Of an entry, and of an empty slot, each byte counts.
func TestP1001EveryByte(t *testing.T) {
	_, s, k := fresh(t, small, api.KDir)
	k = addAll(t, s, k, 1, "a")
	for at := range 128 {
		was, e := k.ReadAt(1, at, 1)
		is(t, "ReadAt", e, api.OK)
		lay(t, k, 1, at, []byte{was[0] ^ 16})
		unlisted(t, k, 1, api.ErrCorrupt)
		k = undone(t, s, k)
	}
	lists(t, k, 1, entry("a", 2, 1, 0))
}

func TestP1001BrokenSize(t *testing.T) {
	for _, size := range []int{1, 63, 64, 65, 128, 256, 448, 511, 513, 1023, 1025, 1088, 1472, 8459263, 8459200} {
		_, s, k := fresh(t, small, api.KDir, api.KDir)
		k = addAll(t, s, k, 1, "0", "3")
		n, e := k.Load(1)
		is(t, "Load", e, api.OK)
		n.Size = size
		is(t, "Save", k.Save(1, n), api.OK)
		corrupt(t, "size "+strconv.Itoa(size), s, next(t, s, k), 1)
	}
}

// Two entries of one name are told by every call, wherever they stand, and whatever they say else.
func TestP1001NameTwice(t *testing.T) {
	for _, c := range []struct {
		first, second int
		named, kind   int
	}{
		{0, 1, 2, 1}, {0, 1, 5, 3}, {0, 23, 2, 1}, {7, 8, 2, 2}, {3, 19, 8, 1}, {22, 23, 2, 1},
	} {
		_, s, k := fresh(t, small, api.KDir, api.KDir)
		k = addAll(t, s, k, 1, numbered(24)...)
		lay(t, k, 1, 64*c.second, record(t, entry(strconv.Itoa(c.first), c.named, c.kind, 0)))
		corrupt(t, fmt.Sprintf("slots %d and %d", c.first, c.second), s, next(t, s, k), 1)
	}
}

// Names alike in all but a little are not the same.
func TestP1003SameBytes(t *testing.T) {
	_, s, k := fresh(t, small, api.KDir)
	names := []string{"a", "A", "aa", "a ", " a", "\u00e9", "e\u0301", "\xe9", strings.Repeat("x", 54), strings.Repeat("x", 53), strings.Repeat("x", 53) + "y"}
	for i, name := range names {
		missing(t, k, 1, name)
		adds(t, k, 1, name, 1+i%8, 1+i%3, api.OK)
		k = next(t, s, k)
	}
	for i, name := range names {
		looks(t, k, 1, name, entry(name, 1+i%8, 1+i%3, i), api.OK)
	}
	for i, name := range names {
		dels(t, k, 1, name, api.OK)
		missing(t, k, 1, name)
		for j, other := range names[i+1:] {
			j += i + 1
			looks(t, k, 1, other, entry(other, 1+j%8, 1+j%3, j), api.OK)
		}
		k = next(t, s, k)
	}
	stat(t, k, 1, 0, 0)
}

// An entry is one by its bytes alone: the node that it names, and that node's kind, are not looked at.
func TestP1003NothingElseIsLookedAt(t *testing.T) {
	_, s, k := fresh(t, small, api.KDir, api.KFile)
	adds(t, k, 1, "none", 8, api.KDir, api.OK)
	adds(t, k, 1, "file", 2, api.KLink, api.OK)
	adds(t, k, 1, "self", 1, api.KFile, api.OK)
	adds(t, k, 1, "far", 1, api.KFile, api.OK)
	lay(t, k, 1, 64*3, record(t, entry("far", 1024, 1, 0))) // no node of this file system has that number
	k = next(t, s, k)
	lists(t, k, 1, entry("far", 1024, 1, 3), entry("file", 2, 3, 1), entry("none", 8, 2, 0), entry("self", 1, 1, 2))
	looks(t, k, 1, "far", entry("far", 1024, 1, 3), api.OK)
	adds(t, k, 1, "far", 1, 1, api.ErrExists)
	dels(t, k, 1, "far", api.OK)
	missing(t, k, 1, "far")
	for number, want := range map[int]api.Node{1: {Kind: api.KDir, Links: 2, Parent: 1}, 2: {Kind: api.KFile}} {
		n, e := k.Load(number)
		n.Size, n.Owned, n.Direct = 0, 0, [10]int{}
		if n != want || e != api.OK {
			t.Fatalf("node %d: %+v, %v", number, n, e)
		}
	}
	unlisted(t, k, 8, api.ErrNode)
}

// What lies behind the size is no part of the directory.
func TestP1003BehindTheSize(t *testing.T) {
	_, s, k := fresh(t, small, api.KDir)
	k = addAll(t, s, k, 1, numbered(8)...)
	block, _, e := k.Grow(1, 1)
	is(t, "Grow", e, api.OK)
	is(t, "Put", k.Put(block, fill('j')), api.OK)
	missing(t, k, 1, "8")
	adds(t, k, 1, "8", 2, 1, api.OK)
	looks(t, k, 1, "8", entry("8", 2, 1, 8), api.OK)
	stat(t, k, 1, 1024, 2)
	adds(t, k, 1, "9", 2, 1, api.OK)
	slotted(t, k, 1, map[string]int{"9": 9})
}

// The bytes of a directory are those of its entries.
func TestP1004Bytes(t *testing.T) {
	_, _, k := fresh(t, small, api.KDir)
	want := make([]byte, 512)
	same := func() {
		t.Helper()
		if data, e := k.ReadAt(1, 0, 9999); e != api.OK || !bytes.Equal(data, want) {
			t.Fatalf("the directory's bytes: %v, %v, want %v", data, e, want)
		}
	}
	for slot, name := range []string{"hi", "b", "c"} {
		adds(t, k, 1, name, 1+slot, 1+slot, api.OK)
		copy(want[64*slot:], record(t, entry(name, 1+slot, 1+slot, 0)))
		same()
	}
	swaps(t, k, 1, "b", 8, 1, api.OK)
	copy(want[64:], record(t, entry("b", 8, 1, 0)))
	same()
	dels(t, k, 1, "hi", api.OK)
	clear(want[:64])
	same()
	dels(t, k, 1, "c", api.OK)
	clear(want[128:])
	same()
	dels(t, k, 1, "b", api.OK)
	want = nil
	same()
}

// The lowest empty slot is taken, whichever it is.
func TestP1004LowestSlot(t *testing.T) {
	_, s, k := fresh(t, small, api.KDir)
	names := numbered(24)
	k = addAll(t, s, k, 1, names...)
	for low := range names {
		for high := low + 1; high < len(names); high += 3 {
			dels(t, k, 1, names[high], api.OK)
			dels(t, k, 1, names[low], api.OK)
			adds(t, k, 1, "x", 3, 2, api.OK)
			adds(t, k, 1, "y", 4, 3, api.OK)
			adds(t, k, 1, "z", 5, 1, api.OK)
			looks(t, k, 1, "x", entry("x", 3, 2, low), api.OK)
			looks(t, k, 1, "y", entry("y", 4, 3, high), api.OK)
			looks(t, k, 1, "z", entry("z", 5, 1, 24), api.OK)
			stat(t, k, 1, 2048, 4)
			k = undone(t, s, k)
		}
	}
}

// A fresh block holds the one entry, whatever lay there before.
func TestP1004FreshBlock(t *testing.T) {
	_, s, k := fresh(t, small, api.KDir)
	for b := 4; b < 20; b++ {
		is(t, "Put", k.Put(b, fill('j')), api.OK)
	}
	k = next(t, s, k)
	for i, name := range numbered(17) {
		adds(t, k, 1, name, 2, 1, api.OK)
		slotted(t, k, 1, map[string]int{name: i})
		stat(t, k, 1, 512*(i/8+1), i/8+1)
		k = next(t, s, k)
	}
	list, e := k.List(1)
	if len(list) != 17 || e != api.OK {
		t.Fatalf("List: %+v, %v", list, e)
	}
}

// An empty slot in a hole is as good as another; its block is taken then.
func TestP1004Hole(t *testing.T) {
	_, s, k := fresh(t, small, api.KDir)
	k = addAll(t, s, k, 1, numbered(24)...)
	is(t, "Wipe", k.Wipe(1, 512, 512), api.OK)
	stat(t, k, 1, 1536, 2)
	missing(t, k, 1, "8")
	slotted(t, k, 1, map[string]int{"7": 7, "16": 16, "23": 23})
	swaps(t, k, 1, "16", 3, 3, api.OK)
	stat(t, k, 1, 1536, 2)
	adds(t, k, 1, "x", 2, 1, api.OK)
	slotted(t, k, 1, map[string]int{"x": 8})
	stat(t, k, 1, 1536, 3)
	k = undone(t, s, k)
	is(t, "Wipe", k.Wipe(1, 512, 512), api.OK)
	takeTo(t, k, 0)
	k = next(t, s, k)
	dels(t, k, 1, "0", api.OK)
	adds(t, k, 1, "x", 2, 1, api.OK)
	slotted(t, k, 1, map[string]int{"x": 0})
	adds(t, k, 1, "y", 2, 1, api.ErrNoSpace)
	asks(t, k, api.ErrNoSpace)
}

// With Del the directory ends with the last block that holds an entry, behind however many others that held one.
func TestP1005LastBlock(t *testing.T) {
	for keep := range 12 {
		_, s, k := fresh(t, small, api.KDir)
		k = laid(t, s, k, 1, 96) // into the single block
		names := numbered(96)
		for _, name := range names[8*keep : 95] {
			dels(t, k, 1, name, api.OK)
			stat(t, k, 1, 512*12, 13)
		}
		dels(t, k, 1, "95", api.OK)
		owned := keep
		if keep > 10 {
			owned++
		}
		stat(t, k, 1, 512*keep, owned)
		for slot, name := range names[:8*keep] {
			slotted(t, k, 1, map[string]int{name: slot})
		}
	}
}

// Blocks without an entry stay as long as one behind them has one; with the last entry they all go.
func TestP1005All(t *testing.T) {
	dice := newDice(1005)
	for range 20 {
		_, s, k := fresh(t, small, api.KDir)
		names := numbered(1 + dice.Below(60))
		k = addAll(t, s, k, 1, names...)
		slots := map[int]string{}
		for slot, name := range names {
			slots[slot] = name
		}
		for len(slots) > 0 {
			slot := dice.Below(len(names))
			if _, there := slots[slot]; !there {
				continue
			}
			dels(t, k, 1, slots[slot], api.OK)
			delete(slots, slot)
			last := -1
			for slot := range slots {
				last = max(last, slot)
			}
			stat(t, k, 1, (last+8)/8*512, (last+8)/8)
			k = next(t, s, k)
		}
		stat(t, k, 1, 0, 0)
		if left(t, k) != 39 {
			t.Fatalf("P1010: %d blocks are free", left(t, k))
		}
	}
}

// Trailing blocks that never held an entry go with the next Del, of whatever name; no other call shortens the directory.
func TestP1005Trailing(t *testing.T) {
	for _, size := range []int{1024, 1536, 5632, 70656, 71168, 8459264} {
		_, s, k := fresh(t, small, api.KDir)
		k = addAll(t, s, k, 1, "a", "b")
		is(t, "Resize", k.Resize(1, size), api.OK)
		_, _, e := k.Grow(1, size/512-1)
		is(t, "Grow", e, api.OK)
		k = next(t, s, k)
		free := left(t, k)
		looks(t, k, 1, "b", entry("b", 2, 1, 1), api.OK)
		lists(t, k, 1, entry("a", 2, 1, 0), entry("b", 2, 1, 1))
		adds(t, k, 1, "c", 2, 1, api.OK)
		swaps(t, k, 1, "c", 3, 1, api.OK)
		if n, _ := k.Load(1); n.Size != size || left(t, k) != free {
			t.Fatalf("size %d, %d free, want %d, %d", n.Size, left(t, k), size, free)
		}
		dels(t, k, 1, "a", api.OK)
		stat(t, k, 1, 512, 1)
		lists(t, k, 1, entry("b", 2, 1, 1), entry("c", 3, 1, 2))
		if left(t, k) != 38 {
			t.Fatalf("%d blocks are free", left(t, k))
		}
		k = undone(t, s, k)
		dels(t, k, 1, "none", api.ErrNotFound)
		if n, _ := k.Load(1); n.Size != size {
			t.Fatalf("size %d, want %d", n.Size, size)
		}
	}
}

// The order of the names, whatever bytes they have and in whatever order they came.
func TestP1007Order(t *testing.T) {
	dice := newDice(1007)
	for range 30 {
		_, s, k := fresh(t, small, api.KDir)
		var want []api.Entry
		for len(want) < 40 {
			data := dice.Bytes(1 + dice.Below(trial.One(dice, 1, 2, 3, 54)))
			for i := range data {
				data[i] = trial.One(dice, data[i], 'a', 'b', 1, 255, '.', 128)
			}
			name := string(data)
			same := func(e api.Entry) bool { return e.Name == name }
			if codec.Name(name) != api.OK || slices.ContainsFunc(want, same) {
				continue
			}
			e := entry(name, 1+dice.Below(8), 1+dice.Below(3), len(want))
			adds(t, k, 1, name, e.Node, e.Kind, api.OK)
			want = append(want, e)
			k = next(t, s, k)
		}
		for i := range want { // by the place of each: as many names are ahead of it
			for j := i; j > 0 && bytes.Compare([]byte(want[j].Name), []byte(want[j-1].Name)) < 0; j-- {
				want[j], want[j-1] = want[j-1], want[j]
			}
		}
		lists(t, k, 1, want...)
	}
}

// What List answers is new memory, its spare room too.
func TestP1007NewMemory(t *testing.T) {
	_, _, k := fresh(t, small, api.KDir)
	adds(t, k, 1, "a", 2, 1, api.OK)
	adds(t, k, 1, "b", 2, 1, api.OK)
	was := blocks(t, k)
	for range 3 {
		list, e := k.List(1)
		is(t, "List", e, api.OK)
		list = append(list, entry("z", 9, 9, 9))
		list = list[:cap(list)]
		for i := range list {
			list[i] = entry("y", 7, 7, 7)
		}
		lists(t, k, 1, entry("a", 2, 1, 0), entry("b", 2, 1, 1))
	}
	if list := unlike(was, blocks(t, k)); list != nil {
		t.Fatalf("P2: the blocks %v are changed", list)
	}
}

// A directory that is longer than one ReadAt can tell, through the single and the double block.
func TestP1009Long(t *testing.T) {
	_, s, k := fresh(t, large, api.KDir)
	const count = 2100 // more than two times 1024
	k = laid(t, s, k, 1, count)
	list, e := k.List(1)
	if len(list) != count || e != api.OK {
		t.Fatalf("List: %d, %v", len(list), e)
	}
	for _, got := range list {
		if slot, _ := strconv.Atoi(got.Name); got != laidEntry(slot) {
			t.Fatalf("List tells %+v", got)
		}
	}
	for _, slot := range []int{0, 1022, 1023, 1024, 1025, 2047, 2048, 2099} {
		name := strconv.Itoa(slot)
		looks(t, k, 1, name, laidEntry(slot), api.OK)
		dels(t, k, 1, name, api.OK)
		adds(t, k, 1, "new", 3, 2, api.OK)
		looks(t, k, 1, "new", entry("new", 3, 2, slot), api.OK)
		swaps(t, k, 1, "new", 4, 1, api.OK)
		looks(t, k, 1, "new", entry("new", 4, 1, slot), api.OK)
		k = undone(t, s, k)
	}
	for _, slot := range []int{1023, 1024, 2050} { // broken, or a name twice, far behind
		lay(t, k, 1, 64*slot+60, []byte{1, 2, 3})
		looks(t, k, 1, "0", api.Entry{}, api.ErrCorrupt)
		k = undone(t, s, k)
		lay(t, k, 1, 64*slot, record(t, entry("0", 1, 1, 0)))
		looks(t, k, 1, "5", api.Entry{}, api.ErrCorrupt)
		k = undone(t, s, k)
	}
}

// A directory as long as can be, of holes: its last slot.
func TestP1004Longest(t *testing.T) {
	_, s, k := fresh(t, small, api.KDir)
	is(t, "Resize", k.Resize(1, 8459264), api.OK)
	last := 8459264/64 - 1
	lists(t, k, 1)
	lay(t, k, 1, 64*last, record(t, entry("last", 7, 1, 0)))
	k = next(t, s, k)
	looks(t, k, 1, "last", entry("last", 7, 1, last), api.OK)
	adds(t, k, 1, "low", 2, 1, api.OK)
	swaps(t, k, 1, "last", 3, 3, api.OK)
	lists(t, k, 1, entry("last", 3, 3, last), entry("low", 2, 1, 0))
	stat(t, k, 1, 8459264, 4)
	dels(t, k, 1, "low", api.OK)
	stat(t, k, 1, 8459264, 4)
	dels(t, k, 1, "last", api.OK)
	stat(t, k, 1, 0, 0)
	lists(t, k, 1)
}

// Where no block is free, all that takes none goes on.
func TestP1011Full(t *testing.T) {
	_, s, k := fresh(t, small, api.KDir, api.KDir)
	names := numbered(20) // four slots of the last block are empty
	k = addAll(t, s, k, 1, names...)
	takeTo(t, k, 0)
	k = next(t, s, k)
	for i := 20; i < 24; i++ {
		k = addAll(t, s, k, 1, strconv.Itoa(i))
		slotted(t, k, 1, map[string]int{strconv.Itoa(i): i})
	}
	adds(t, k, 1, "0", 2, 1, api.ErrExists)
	for _, name := range names {
		dels(t, k, 1, name, api.OK)
		adds(t, k, 1, "new", 2, 1, api.OK)
		swaps(t, k, 1, "new", 3, 3, api.OK)
		missing(t, k, 1, name)
		k = undone(t, s, k)
	}
	for _, number := range []int{1, 2} {
		adds(t, k, number, "new", 2, 1, api.ErrNoSpace)
		asks(t, k, api.ErrNoSpace)
		k = undone(t, s, k)
	}
	k = delAll(t, s, k, 1, numbered(24)...)
	stat(t, k, 1, 0, 0)
	adds(t, k, 2, "new", 2, 1, api.OK)
}

// Add takes as many blocks as a new last block needs, and no fewer must be free.
func TestP1004Room(t *testing.T) {
	for _, c := range []struct{ entries, takes int }{{0, 1}, {8, 1}, {72, 1}, {80, 2}, {88, 1}} {
		for free := range c.takes + 2 {
			_, s, k := fresh(t, small, api.KDir)
			k = addAll(t, s, k, 1, numbered(c.entries)...)
			takeTo(t, k, free)
			k = next(t, s, k)
			if free < c.takes {
				adds(t, k, 1, "x", 2, 1, api.ErrNoSpace)
				k = undone(t, s, k)
				missing(t, k, 1, "x")
				continue
			}
			adds(t, k, 1, "x", 2, 1, api.OK)
			slotted(t, k, 1, map[string]int{"x": c.entries})
			if left(t, k) != free-c.takes {
				t.Fatalf("%d blocks are free, %d were", left(t, k), free)
			}
			dels(t, k, 1, "x", api.OK)
			if left(t, k) != free {
				t.Fatalf("P1005: %d blocks are free, %d were", left(t, k), free)
			}
		}
	}
}
