package walk_test

import (
	"math"
	"slices"
	"strings"
	"testing"

	"vellum/api"
	"vellum/codec"
	"vellum/dir"
	"vellum/disk"
	"vellum/file"
	"vellum/node"
	"vellum/pool"
	"vellum/span"
	"vellum/store"
	"vellum/trial"
	"vellum/walk"
)

var (
	small = api.Super{Sectors: 64, Log: 18, Nodes: 8}
	wide  = api.Super{Sectors: 128, Log: 18, Nodes: 40}
	large = api.Super{Sectors: 2048, Log: 18, Nodes: 1024}
)

// Short names of what the tests of all views share.
var (
	is      = trial.Is
	newDice = trial.NewDice
	blocks  = trial.Blocks
	unlike  = trial.Unlike
)

func on(tx *store.Tx) *walk.Walk {
	return walk.On(dir.On(file.On(span.On(node.On(pool.On(tx))))))
}

// tree is a store, and the ways on its open transaction.
type tree struct {
	*walk.Walk
	t *testing.T
	d *disk.Disk
	s *store.Store
}

// next commits, and begins another transaction.
func (r *tree) next() {
	r.t.Helper()
	r.Walk = trial.Next(r.t, r.s, r.Walk, on)
}

// undone aborts, and begins another transaction.
func (r *tree) undone() {
	r.t.Helper()
	is(r.t, "Abort", r.Abort(), api.OK)
	r.Walk = on(trial.Begun(r.t, r.s))
}

// bare is a store of that form without a node.
func bare(t *testing.T, form api.Super) *tree {
	t.Helper()
	d, s, w := trial.Fresh(t, form, 0, on)
	return &tree{w, t, d, s}
}

// planted is a store of that form with a root without entries.
func planted(t *testing.T, form api.Super) *tree {
	t.Helper()
	r := bare(t, form)
	r.make(api.KDir, 1)
	r.next()
	return r
}

func (r *tree) make(kind, parent int) int {
	r.t.Helper()
	number, e := r.Make(kind, parent)
	is(r.t, "Make", e, api.OK)
	return number
}

func (r *tree) add(in int, name string, number, kind int) {
	r.t.Helper()
	is(r.t, "Add "+name, r.Add(in, name, number, kind), api.OK)
}

// dir, file and link make a node with a name, in a transaction of its own.
func (r *tree) dir(in int, name string) int {
	r.t.Helper()
	number := r.make(api.KDir, in)
	r.add(in, name, number, api.KDir)
	r.next()
	return number
}

func (r *tree) file(in int, name string) int {
	r.t.Helper()
	number := r.make(api.KFile, 0)
	r.add(in, name, number, api.KFile)
	r.next()
	return number
}

func (r *tree) link(in int, name, text string) int {
	r.t.Helper()
	number := r.make(api.KLink, 0)
	r.add(in, name, number, api.KLink)
	is(r.t, "WriteAt", r.WriteAt(number, 0, []byte(text)), api.OK)
	r.next()
	return number
}

// hangs lets a directory have another parent.
func (r *tree) hangs(number, parent int) {
	r.t.Helper()
	n, e := r.Load(number)
	is(r.t, "Load", e, api.OK)
	n.Parent = parent
	is(r.t, "Save", r.Save(number, n), api.OK)
}

// breaks breaks the slot of a node in the table.
func (r *tree) breaks(number int) {
	r.t.Helper()
	block := 2 + (number-1)/4
	data := trial.Get(r.t, r, block)
	data[128*((number-1)%4)+20]++
	is(r.t, "Put", r.Put(block, data), api.OK)
}

// lays writes an entry into a slot of a directory, as bytes: so it may name a node that Add lets no entry name.
func (r *tree) lays(in, slot int, entry api.Entry) {
	r.t.Helper()
	data, e := codec.EncodeEntry(entry)
	is(r.t, "EncodeEntry", e, api.OK)
	is(r.t, "WriteAt", r.WriteAt(in, 64*slot, data), api.OK)
}

// sample is the tree of the chapter's examples.
func sample(t *testing.T) *tree {
	t.Helper()
	r := planted(t, small)
	r.dir(1, "d")
	r.file(2, "f")
	r.link(2, "l", "f")
	r.link(1, "up", "d/../d")
	r.link(1, "self", "self")
	r.link(1, "gone", "/d/none")
	return r
}

func place(parent int, name string, number, kind int) api.Place {
	return api.Place{Parent: parent, Name: name, Node: number, Kind: kind}
}

// nameless is a place without a name of its own.
func nameless(number int) api.Place { return place(0, "", number, api.KDir) }

func (r *tree) leads(path string, follow bool, want api.Place) {
	r.t.Helper()
	if got, e := r.Resolve(path, follow); got != want || e != api.OK {
		r.t.Fatalf("Resolve(%.60q, %v): %+v, %v, want %+v", path, follow, got, e, want)
	}
}

// leadsBoth asks for the same place whatever follow is.
func (r *tree) leadsBoth(path string, want api.Place) {
	r.t.Helper()
	r.leads(path, true, want)
	r.leads(path, false, want)
}

func (r *tree) stops(path string, follow bool, want api.Errno) {
	r.t.Helper()
	if got, e := r.Resolve(path, follow); got != (api.Place{}) || e != want {
		r.t.Fatalf("Resolve(%.60q, %v): %+v, %v, want %v", path, follow, got, e, want)
	}
}

func (r *tree) stopsBoth(path string, want api.Errno) {
	r.t.Helper()
	r.stops(path, true, want)
	r.stops(path, false, want)
}

// spoils asks that a path stops with ErrCorrupt, that this spoils the transaction, and takes it back.
func (r *tree) spoils(path string, follow bool) {
	r.t.Helper()
	r.stops(path, follow, api.ErrCorrupt)
	asks(r.t, r.Walk, api.ErrCorrupt)
	is(r.t, "Commit", r.Commit(), api.ErrCorrupt)
	r.undone()
}

func (r *tree) inside(number, in int, want bool) {
	r.t.Helper()
	if got, e := r.Inside(number, in); got != want || e != api.OK {
		r.t.Fatalf("Inside(%d, %d): %v, %v, want %v", number, in, got, e, want)
	}
}

func (r *tree) notInside(number, in int, want api.Errno) {
	r.t.Helper()
	if got, e := r.Inside(number, in); got || e != want {
		r.t.Fatalf("Inside(%d, %d): %v, %v, want %v", number, in, got, e, want)
	}
}

func (r *tree) path(number int, want string) {
	r.t.Helper()
	if got, e := r.Path(number); got != want || e != api.OK {
		r.t.Fatalf("Path(%d): %q, %v, want %q", number, got, e, want)
	}
}

func (r *tree) noPath(number int, want api.Errno) {
	r.t.Helper()
	if got, e := r.Path(number); got != "" || e != want {
		r.t.Fatalf("Path(%d): %q, %v, want %v", number, got, e, want)
	}
}

func splits(t *testing.T, path string, want ...string) {
	t.Helper()
	if got, e := walk.Split(path); !slices.Equal(got, want) || e != api.OK {
		t.Fatalf("Split(%.60q): %q, %v, want %q", path, got, e, want)
	}
}

func unsplit(t *testing.T, path string, want api.Errno) {
	t.Helper()
	if got, e := walk.Split(path); len(got) > 0 || e != want {
		t.Fatalf("Split(%.60q): %q, %v, want %v", path, got, e, want)
	}
}

var badNumbers = []int{math.MinInt, -1, 0, 9, 1024, 1 << 32, 1<<32 + 1, math.MaxInt} // of nodes, where there are eight

// asks makes every call, with arguments that are right and wrong, and wants of each that error and nothing beside it.
func asks(t *testing.T, w *walk.Walk, want api.Errno) {
	t.Helper()
	r := &tree{Walk: w, t: t}
	for _, path := range []string{"/", "/d", "/d/l", "/none", "/self", "", "d", "/\x00", strings.Repeat("/", 1024)} {
		r.stopsBoth(path, want)
	}
	numbers := []int{math.MinInt, 0, 1, 2, 3, 8, 9, math.MaxInt}
	for _, number := range numbers {
		r.noPath(number, want)
		for _, in := range numbers {
			r.notInside(number, in, want)
		}
	}
}

// The methods of all that lies below are the ways' too, and On asks for nothing, whatever has become of the transaction.
func TestP1102On(t *testing.T) {
	r := sample(t)
	is(t, "Abort", r.Abort(), api.OK)
	tx := trial.Begun(t, r.s)
	k := dir.On(file.On(span.On(node.On(pool.On(tx)))))
	was := r.d.Counts()
	w := walk.On(k)
	if w == nil || w.Dirs != k || w.Files != k.Files || w.Map != k.Map || w.Table != k.Table || w.Pool != k.Pool || w.Tx != tx {
		t.Fatal("On: no ways on these directories")
	}
	if r.d.Counts() != was {
		t.Fatalf("On: the disk was asked %+v, and %+v before", r.d.Counts(), was)
	}
	is(t, "Add", w.Add(1, "x", 3, api.KFile), api.OK)
	for _, other := range []*walk.Walk{w, walk.On(k), on(tx)} { // it is seen at once, and by others too
		r.Walk = other
		r.leadsBoth("/x", place(1, "x", 3, api.KFile))
	}
	is(t, "Commit", tx.Commit(), api.OK)
	asks(t, walk.On(k), api.ErrEnded)
	r.d.Crash(nil)
	asks(t, walk.On(k), api.ErrDead)
}

// What has become of the transaction is told ahead of all else, by every call.
func TestP1102State(t *testing.T) {
	for _, c := range trial.Endings() {
		r := sample(t)
		r.add(1, "x", 3, api.KFile)
		c.End(r.d, r.s, r.Tx)
		asks(t, r.Walk, c.Want)
	}
}

func TestP1101Example1(t *testing.T) {
	splits(t, "/d//f/", "d", "f")
	unsplit(t, "d", api.ErrPath)
	unsplit(t, "/a\x00", api.ErrName)
	splits(t, "/..", "..")
}

func TestP1101Parts(t *testing.T) {
	for _, path := range []string{"/", "//", "/./", "/.", "/././", "///./", strings.Repeat("/", 1023), strings.Repeat("/.", 511) + "/"} {
		splits(t, path)
	}
	for _, path := range []string{"/a/", "//a", "/a/.", "/a", "/./a", "/a//", "/.//a/./", strings.Repeat("/", 1022) + "a", "/a" + strings.Repeat("/", 1021)} {
		splits(t, path, "a")
	}
	splits(t, "/..//../", "..", "..")
	splits(t, "/.../..a/a../.a/a.", "...", "..a", "a..", ".a", "a.")
	splits(t, "/ / ./. /\n", " ", " .", ". ", "\n")
	splits(t, "/b/a/b/a", "b", "a", "b", "a")
	splits(t, "/\\/a\\b", "\\", "a\\b")
	splits(t, strings.Repeat("/..", 341), slices.Repeat([]string{".."}, 341)...)
	splits(t, "/"+strings.Repeat("x", 54)+"/"+strings.Repeat("\xff", 54), strings.Repeat("x", 54), strings.Repeat("\xff", 54))
}

// Of a name no byte is changed, whether its bytes are letters or not; and no byte but a slash's ends one.
func TestP1101Bytes(t *testing.T) {
	for x := 1; x < 256; x++ {
		if x == '/' {
			continue
		}
		alone := string([]byte{byte(x)})
		splits(t, "/a"+alone+"/"+alone+"b/", "a"+alone, alone+"b")
		if x != '.' {
			splits(t, "/"+alone, alone)
			splits(t, "/"+alone+"//"+alone, alone, alone)
		}
		splits(t, "/\xe2"+alone+"\x82/\xf0\x9f"+alone, "\xe2"+alone+"\x82", "\xf0\x9f"+alone)
	}
	splits(t, "/\u00e9/\u20ac/\U0001f4dc/\ufffd", "\u00e9", "\u20ac", "\U0001f4dc", "\ufffd")
	splits(t, "/\xc3/\xe2\x82/\xf0\x9f\x93/\xc0\xaf/\xaf", "\xc3", "\xe2\x82", "\xf0\x9f\x93", "\xc0\xaf", "\xaf") // letters that are cut off, and a slash in too many bytes
	splits(t, "/\uff0f/\u2215/\u012f/\u2f2f", "\uff0f", "\u2215", "\u012f", "\u2f2f")                              // like a slash, or with its byte in their number
}

func TestP1101Refused(t *testing.T) {
	long := strings.Repeat("x", 55)
	for _, c := range []struct {
		path string
		want api.Errno
	}{
		{"", api.ErrPath}, {".", api.ErrPath}, {"..", api.ErrPath}, {"./a", api.ErrPath}, {"a/b", api.ErrPath}, {" /a", api.ErrPath}, {"\x00", api.ErrPath}, {"\\a", api.ErrPath}, {"\uff0fa", api.ErrPath}, {long, api.ErrPath}, {strings.Repeat("a", 1023), api.ErrPath},
		{strings.Repeat("/", 1024), api.ErrLong}, {strings.Repeat("a", 1024), api.ErrLong}, {strings.Repeat("\x00", 1024), api.ErrLong}, {strings.Repeat("/", 1<<20), api.ErrLong}, {"/" + strings.Repeat("/\u00e9", 341), api.ErrLong},
		{"/" + long, api.ErrLong}, {"/a/" + long, api.ErrLong}, {"/" + long + "/a", api.ErrLong}, {"/" + strings.Repeat("\x00", 55), api.ErrLong}, {"/" + strings.Repeat("x", 1022), api.ErrLong}, {"/" + strings.Repeat(".", 55), api.ErrLong},
		{"/\x00", api.ErrName}, {"/a/b\x00", api.ErrName}, {"/\x00a/", api.ErrName}, {"/" + strings.Repeat("\x00", 54), api.ErrName}, {"/.\x00", api.ErrName}, {"/..\x00", api.ErrName},
		{"/\x00/" + long, api.ErrName}, {"/" + long + "/\x00", api.ErrLong}, {"/a/./\x00//" + long, api.ErrName}, {"/../" + long + "/../\x00", api.ErrLong},
		{strings.Repeat("/", 1022) + "\x00", api.ErrName}, {strings.Repeat("/", 968) + long, api.ErrLong},
	} {
		unsplit(t, c.path, c.want)
	}
}

// short tells all texts of at most so many of these letters.
func short(letters []string, most int, tell func(string)) {
	tell("")
	if most == 0 {
		return
	}
	for _, letter := range letters {
		short(letters, most-1, func(rest string) { tell(letter + rest) })
	}
}

// Every short path, against the library's way to cut a text.
func TestP1101EveryShortPath(t *testing.T) {
	count := 0
	short([]string{"/", ".", "a", "\x00", "\xc3", strings.Repeat("n", 54)}, 6, func(path string) {
		count++
		want, e := cut(path)
		if !strings.HasPrefix(path, "/") {
			want, e = nil, api.ErrPath
		}
		if e == api.OK {
			splits(t, path, want...)
		} else {
			unsplit(t, path, e)
		}
	})
	if count < 50000 {
		t.Errorf("%d paths are few", count)
	}
}

// What Split answers is new memory, its spare room too.
func TestP1101NewMemory(t *testing.T) {
	const path = "/a/b/c/d/e"
	for range 3 {
		list, e := walk.Split(path)
		is(t, "Split", e, api.OK)
		list = append(list, "x")
		list = list[:cap(list)]
		for i := range list {
			list[i] = "y"
		}
		splits(t, path, "a", "b", "c", "d", "e")
	}
}
