package codec_test

import (
	"bytes"
	"math"
	"strings"
	"testing"

	"vellum/api"
	"vellum/codec"
)

// The three records by one form, so that a test of one is a test of all.
type form struct {
	name    string
	size    int
	recode  func(b []byte) ([]byte, api.Errno) // decode, and encode again
	decodes func(b []byte) (answer any, e api.Errno)
	model   func(b []byte) (answer any, e api.Errno)
	none    any
}

func forms() []form {
	return []form{
		{"super", 512,
			func(b []byte) ([]byte, api.Errno) { return again(codec.DecodeSuper, codec.EncodeSuper, b) },
			func(b []byte) (any, api.Errno) { return codec.DecodeSuper(b) },
			func(b []byte) (any, api.Errno) { return modelDecodeSuper(b) }, api.Super{}},
		{"node", 128,
			func(b []byte) ([]byte, api.Errno) { return again(codec.DecodeNode, codec.EncodeNode, b) },
			func(b []byte) (any, api.Errno) { return codec.DecodeNode(b) },
			func(b []byte) (any, api.Errno) { return modelDecodeNode(b) }, api.Node{}},
		{"entry", 64,
			func(b []byte) ([]byte, api.Errno) { return again(codec.DecodeEntry, codec.EncodeEntry, b) },
			func(b []byte) (any, api.Errno) { return codec.DecodeEntry(b) },
			func(b []byte) (any, api.Errno) { return modelDecodeEntry(b) }, api.Entry{}},
	}
}

func again[T any](decode func([]byte) (T, api.Errno), encode func(T) ([]byte, api.Errno), b []byte) ([]byte, api.Errno) {
	v, e := decode(b)
	if e != api.OK {
		return nil, e
	}
	return encode(v)
}

// check holds a decoder's answer against the model's, and asks P2 and P4 of it on the way.
func (f form) check(t *testing.T, what string, b []byte) (e api.Errno) {
	t.Helper()
	kept := bytes.Clone(b)
	got, e := f.decodes(b)
	want, wantE := f.model(kept)
	if got != want || e != wantE {
		t.Errorf("decoding a %s, %s: %v, %v, want %v, %v", f.name, what, got, e, want, wantE)
	}
	if e != api.OK && got != f.none {
		t.Errorf("decoding a %s, %s: %v beside %v", f.name, what, got, e)
	}
	if !bytes.Equal(b, kept) {
		t.Errorf("decoding a %s, %s, changed what was handed in", f.name, what)
	}
	return e
}

func longest(c string) string { return strings.Repeat(c, api.MaxName) }

func goodSupers() []api.Super {
	return []api.Super{
		{Sectors: 25, Log: 18, Nodes: 4}, {Sectors: 64, Log: 18, Nodes: 8}, {Sectors: 2048, Log: 256, Nodes: 1024},
		{Sectors: 2048, Log: 18, Nodes: 4}, {Sectors: 258 + 3 + 18 + 1, Log: 18, Nodes: 1024}, {Sectors: 263, Log: 256, Nodes: 4}, {Sectors: 777, Log: 99, Nodes: 252},
	}
}

func goodNodes() []api.Node {
	full := api.Node{Kind: api.KFile, Links: 64, Size: api.MaxFile, Owned: api.MaxSectors, Single: 2047, Double: 2047}
	rising := api.Node{Kind: api.KDir, Links: 2, Parent: 1024, Size: 0x010203, Owned: 0x0405, Single: 0x0607, Double: 0x0102}
	for i := range full.Direct {
		full.Direct[i] = 2047
		rising.Direct[i] = 100*i + 1
	}
	return []api.Node{
		{}, {Kind: 1}, {Kind: 1, Links: 1}, {Kind: 3}, {Kind: 3, Links: 1, Size: 255, Owned: 1}, {Kind: 2, Parent: 1}, {Kind: 2, Links: 1, Parent: 258}, full, rising,
	}
}

func goodEntries() []api.Entry {
	return []api.Entry{
		{}, {Node: 1, Kind: 1, Name: "a"}, {Node: 1024, Kind: 3, Name: longest("x")}, {Node: 258, Kind: 2, Name: "..."}, {Node: 77, Kind: 1, Name: "\xff\x01 \n\xc3"},
		{Node: 2, Kind: 2, Name: longest("\xff")}, {Node: 3, Kind: 3, Name: strings.Repeat("y", 53)},
	}
}

// records: encoded ones of that form, made by the model.
func (f form) records() [][]byte {
	var all [][]byte
	switch f.name {
	case "super":
		for _, s := range goodSupers() {
			b, _ := modelEncodeSuper(s)
			all = append(all, b)
		}
	case "node":
		for _, n := range goodNodes() {
			b, _ := modelEncodeNode(n)
			all = append(all, b)
		}
	case "entry":
		for _, x := range goodEntries() {
			b, _ := modelEncodeEntry(x)
			all = append(all, b)
		}
	}
	return all
}

func TestP201Sum(t *testing.T) {
	for _, c := range []struct {
		b    []byte
		want int
	}{
		{nil, 0}, {[]byte{}, 0}, {[]byte("a"), 0xC1D04330}, {[]byte("123456789"), 0xE3069283},
		{make([]byte, 32), 0x8A9136AA}, {bytes.Repeat([]byte{0xFF}, 32), 0x62A8AB43},
	} {
		if got := codec.Sum(c.b); got != c.want {
			t.Errorf("Sum(%.12q) = %#x, want %#x", c.b, got, c.want)
		}
	}
	for x := range 256 {
		wantSum(t, []byte{byte(x)})
		wantSum(t, []byte{byte(x), 0, byte(255 - x)})
	}
	var d dice
	for n := range 700 {
		wantSum(t, d.bytes(n))
		wantSum(t, make([]byte, n))
	}
	wantSum(t, d.bytes(1<<16))
}

func wantSum(t *testing.T, b []byte) {
	t.Helper()
	kept := bytes.Clone(b)
	got := codec.Sum(b)
	if want := modelSum(kept); got != want || got < 0 || got > 1<<32-1 {
		t.Errorf("Sum of %d bytes %.12q = %#x, want %#x", len(b), b, got, want)
	}
	if !bytes.Equal(b, kept) {
		t.Errorf("Sum changed its %d bytes", len(b))
	}
}

func TestP202Name(t *testing.T) {
	for s, want := range map[string]api.Errno{
		"a": api.OK, "...": api.OK, "....": api.OK, ".a": api.OK, "..a": api.OK, "a.": api.OK, "a..": api.OK, ". ": api.OK, " ": api.OK, "ä": api.OK, "\xff\xfe": api.OK, longest("x"): api.OK, longest("."): api.OK, longest("\xff"): api.OK,
		"": api.ErrName, ".": api.ErrName, "..": api.ErrName, "a/b": api.ErrName, "/": api.ErrName, "//": api.ErrName, "\x00": api.ErrName, "/\x00": api.ErrName, longest("/"): api.ErrName, longest("\x00"): api.ErrName,
		longest("x") + "x": api.ErrLong, longest("/") + "/": api.ErrLong, longest("\x00") + "\x00": api.ErrLong, strings.Repeat("ä", 27): api.OK, strings.Repeat("ä", 28): api.ErrLong, strings.Repeat("x", 1<<16): api.ErrLong,
	} {
		if got := codec.Name(s); got != want {
			t.Errorf("Name(%.60q) = %v, want %v", s, got, want)
		}
	}
	for x := range 256 {
		c := string([]byte{byte(x)})
		for _, s := range []string{c, c + "a", "a" + c, "a" + c + "a", "." + c, c + ".", longest("x")[1:] + c, c + longest("x"), "\xc3" + c} {
			if got, want := codec.Name(s), modelName(s); got != want {
				t.Errorf("Name(%q) = %v, want %v", s, got, want)
			}
		}
	}
}

func TestP203Plan(t *testing.T) {
	for s, want := range map[api.Super]api.Layout{
		{Sectors: 25, Log: 18, Nodes: 4}:          {Log: 18, Home: 21, Blocks: 4, Nodes: 4, Data: 3},
		{Sectors: 64, Log: 18, Nodes: 8}:          {Log: 18, Home: 21, Blocks: 43, Nodes: 8, Data: 4},
		{Sectors: 64, Log: 18, Nodes: 4}:          {Log: 18, Home: 21, Blocks: 43, Nodes: 4, Data: 3},
		{Sectors: 2048, Log: 256, Nodes: 1024}:    {Log: 256, Home: 259, Blocks: 1789, Nodes: 1024, Data: 258},
		{Sectors: 64, Log: 17, Nodes: 8}:          {},
		{Sectors: 64, Log: 18, Nodes: 6}:          {},
		{Sectors: 24, Log: 18, Nodes: 4}:          {},
		{Sectors: 2049, Log: 18, Nodes: 8}:        {},
		{Sectors: 2048, Log: 18, Nodes: 1028}:     {},
		{Sectors: 2048, Log: 257, Nodes: 4}:       {},
		{Sectors: math.MinInt, Log: 18, Nodes: 4}: {},
		{}: {},
	} {
		e := api.OK
		if want == (api.Layout{}) {
			e = api.ErrGeometry
		}
		if got, gotE := codec.Plan(s); got != want || gotE != e {
			t.Errorf("Plan(%v) = %v, %v, want %v, %v", s, got, gotE, want, e)
		}
	}
	for _, s := range geometries() {
		got, e := codec.Plan(s)
		if want, wantE := modelPlan(s); got != want || e != wantE {
			t.Fatalf("Plan(%v) = %v, %v, want %v, %v", s, got, e, want, wantE)
		}
	}
}

// geometries: right ones and wrong ones, about every bound.
func geometries() []api.Super {
	odd := []int{math.MinInt, math.MinInt + 3, -1 << 32, -257, -4, -1, 0, 1, 1 << 31, 1 << 32, 1<<32 + 20, math.MaxInt - 3, math.MaxInt}
	logs := append([]int{17, 18, 19, 100, 255, 256, 257}, odd...)
	nodes := append([]int{}, odd...)
	for n := -8; n <= 1032; n++ {
		nodes = append(nodes, n)
	}
	var all []api.Super
	for _, log := range logs {
		for _, n := range nodes {
			least := 3 + log + 2 + n/4 + 1
			for _, sectors := range append([]int{least - 1, least, least + 1, 24, 25, 26, 2047, 2048, 2049}, odd...) {
				all = append(all, api.Super{Sectors: sectors, Log: log, Nodes: n})
			}
		}
	}
	return all
}

func wantEncoded(t *testing.T, what any, got []byte, e api.Errno, want []byte, wantE api.Errno) {
	t.Helper()
	if e != wantE || !bytes.Equal(got, want) {
		t.Fatalf("encoding %+v: % x, %v, want % x, %v", what, got, e, want, wantE)
	}
}

func TestP204EncodeSuper(t *testing.T) {
	b, e := codec.EncodeSuper(api.Super{Sectors: 512, Log: 20, Nodes: 16})
	if e != api.OK || len(b) != 512 || string(b[:20]) != "vellum\x00\x01\x00\x02\x00\x00\x14\x00\x00\x00\x10\x00\x00\x00" || !bytes.Equal(b[20:508], make([]byte, 488)) {
		t.Errorf("EncodeSuper({512, 20, 16}) = % x, %v", b, e)
	}
	for _, s := range append(goodSupers(), geometries()...) {
		got, e := codec.EncodeSuper(s)
		want, wantE := modelEncodeSuper(s)
		wantEncoded(t, s, got, e, want, wantE)
	}
}

// oddNodes: nodes with one field out of fit, or at its edge.
func oddNodes() []api.Node {
	var all []api.Node
	numbers := []int{math.MinInt, -1 << 32, -65536, -256, -1, 0, 1, 2, 3, 4, 63, 64, 65, 255, 256, 257, 1023, 1024, 1025, 2047, 2048, 2049, 65536, 65537, api.MaxFile, api.MaxFile + 1, 1 << 31, 1 << 32, 1<<32 + 1, math.MaxInt}
	for _, base := range append(goodNodes(), api.Node{Kind: 2, Links: 9, Parent: 5}) {
		for _, x := range numbers {
			var n [6]api.Node
			for i := range n {
				n[i] = base
			}
			n[0].Kind, n[1].Links, n[2].Parent, n[3].Size, n[4].Owned, n[5].Single = x, x, x, x, x, x
			all = append(all, n[:]...)
			double := base
			double.Double = x
			all = append(all, double)
			for i := range base.Direct {
				direct := base
				direct.Direct[i] = x
				all = append(all, direct)
			}
		}
	}
	return all
}

func TestP205EncodeNode(t *testing.T) {
	b, e := codec.EncodeNode(api.Node{Kind: 1, Links: 1})
	if e != api.OK || len(b) != 128 || string(b[:4]) != "\x01\x00\x01\x00" || !bytes.Equal(b[4:124], make([]byte, 120)) {
		t.Errorf("EncodeNode({Kind: 1, Links: 1}) = % x, %v", b, e)
	}
	for _, n := range []api.Node{{Kind: 2, Links: 2}, {Links: 1}, {Kind: 4}, {Kind: 1, Parent: 1}, {Kind: 3, Parent: 1}, {Parent: 1}, {Single: 1}, {Direct: [10]int{9: 1}}} {
		if b, e := codec.EncodeNode(n); e != api.ErrField || len(b) != 0 {
			t.Errorf("EncodeNode(%v) = %d bytes, %v", n, len(b), e)
		}
	}
	for _, n := range append(goodNodes(), oddNodes()...) {
		got, e := codec.EncodeNode(n)
		want, wantE := modelEncodeNode(n)
		wantEncoded(t, n, got, e, want, wantE)
	}
}

func oddEntries() []api.Entry {
	var all []api.Entry
	names := []string{"", ".", "..", "...", "a", "a/b", "a\x00", "\x00", longest("x"), longest("x") + "x", longest("/") + "/", strings.Repeat("x", 256), strings.Repeat("x", 257), strings.Repeat("x", 1000)}
	for _, node := range []int{math.MinInt, -1 << 32, -1, 0, 1, 2, 1023, 1024, 1025, 1 << 32, 1<<32 + 1, math.MaxInt} {
		for _, kind := range []int{math.MinInt, -256, -1, 0, 1, 2, 3, 4, 255, 256, 257, 1 << 32, math.MaxInt} {
			for _, name := range names {
				all = append(all, api.Entry{Node: node, Kind: kind, Name: name})
			}
		}
	}
	return all
}

func TestP206EncodeEntry(t *testing.T) {
	b, e := codec.EncodeEntry(api.Entry{Node: 513, Kind: 3, Name: "h\xff"})
	if e != api.OK || len(b) != 64 || string(b[:8]) != "\x01\x02\x00\x00\x03\x02h\xff" || !bytes.Equal(b[8:60], make([]byte, 52)) {
		t.Errorf("EncodeEntry = % x, %v", b, e)
	}
	for _, x := range append(goodEntries(), oddEntries()...) {
		want, wantE := modelEncodeEntry(x)
		for _, slot := range []int{0, 1, -1, math.MaxInt, math.MinInt} {
			x.Slot = slot
			got, e := codec.EncodeEntry(x)
			wantEncoded(t, x, got, e, want, wantE)
		}
	}
}

// Lengths that are not the record's, over bytes that would otherwise pass.
func TestP204P205P206DecodeLength(t *testing.T) {
	for _, f := range forms() {
		for _, whole := range f.records() {
			long := append(bytes.Clone(whole), make([]byte, 600)...)
			for n := range len(long) {
				e := f.check(t, "cut", long[:n:n])
				if (e == api.ErrLength) != (n != f.size) || n == f.size && e != api.OK {
					t.Errorf("decoding %d bytes of a %s: %v", n, f.name, e)
				}
			}
		}
		for _, b := range [][]byte{nil, {}} {
			if e := f.check(t, "no bytes", b); e != api.ErrLength {
				t.Errorf("decoding no bytes of a %s: %v", f.name, e)
			}
		}
	}
}

// One byte of a record is another, and the sum is right again: so the fields alone are asked.
func TestP204P205P206DecodeFields(t *testing.T) {
	for _, f := range forms() {
		for i, whole := range f.records() {
			for at := range f.size - 4 {
				for x := range 256 {
					if i > 0 && at >= 72 && x > 1 { // the zeros behind a node's and a superblock's fields: one record asks of them all
						break
					}
					b := bytes.Clone(whole)
					b[at] = byte(x)
					f.check(t, "one byte other", resum(b))
				}
			}
		}
	}
}

// Two bytes of the fields are others: a u64 above all numbers, a length with a name of that length, and so on.
func TestP205P206DecodeTwoBytes(t *testing.T) {
	edges := []byte{0, 1, 46, 47, 54, 55, 64, 65, 128, 255}
	for _, f := range forms() {
		if f.name == "super" {
			continue
		}
		for _, whole := range f.records() {
			for at := range min(f.size-4, 72) {
				for _, x := range edges {
					for _, other := range []int{0, 4, 5, 6, 8, 15} {
						for _, y := range edges {
							b := bytes.Clone(whole)
							b[at], b[other] = x, y
							f.check(t, "two bytes other", resum(b))
						}
					}
				}
			}
		}
	}
}

func TestP206DecodeNameLength(t *testing.T) {
	f := forms()[2]
	for n := range 256 {
		b := make([]byte, 64)
		b[0], b[4], b[5] = 1, 1, byte(n)
		for i := 6; i < min(6+n, 60); i++ {
			b[i] = 'n'
		}
		e := f.check(t, "a name and its length", resum(b))
		if (e == api.OK) != (n >= 1 && n <= 54) {
			t.Errorf("DecodeEntry with a name of %d bytes: %v", n, e)
		}
	}
}

// An empty record has no sum; zeros with one are no record.
func TestP205P206Empty(t *testing.T) {
	for _, f := range forms()[1:] {
		zeros := make([]byte, f.size)
		if answer, e := f.decodes(zeros); e != api.OK || answer != f.none {
			t.Errorf("decoding an empty %s: %v, %v", f.name, answer, e)
		}
		if e := f.check(t, "zeros with a sum", resum(bytes.Clone(zeros))); e != api.ErrCorrupt {
			t.Errorf("decoding zeros with a sum as a %s: %v", f.name, e)
		}
	}
	if s, e := codec.DecodeSuper(make([]byte, 512)); e != api.ErrCorrupt || s != (api.Super{}) {
		t.Errorf("DecodeSuper of zeros: %v, %v", s, e)
	}
}

func TestP207ThereAndBack(t *testing.T) {
	for _, s := range goodSupers() {
		b, _ := codec.EncodeSuper(s)
		if back, e := codec.DecodeSuper(b); e != api.OK || back != s {
			t.Errorf("%v came back as %v, %v", s, back, e)
		}
	}
	for _, n := range append(goodNodes(), oddNodes()...) {
		b, e := codec.EncodeNode(n)
		if e != api.OK {
			continue
		}
		if back, e := codec.DecodeNode(b); e != api.OK || back != n {
			t.Errorf("%v came back as %v, %v", n, back, e)
		}
	}
	for _, x := range append(goodEntries(), oddEntries()...) {
		b, e := codec.EncodeEntry(api.Entry{Node: x.Node, Kind: x.Kind, Name: x.Name, Slot: 7})
		if e != api.OK {
			continue
		}
		if back, e := codec.DecodeEntry(b); e != api.OK || back != x {
			t.Errorf("%v came back as %v, %v", x, back, e)
		}
	}
	for _, f := range forms() {
		for _, b := range f.records() {
			if back, e := f.recode(b); e != api.OK || !bytes.Equal(back, b) {
				t.Errorf("a %s % x came back as % x, %v", f.name, b, back, e)
			}
		}
	}
}

// turn turns over the bits of the pattern, its lowest at bit from of the record.
func turn(b []byte, from int, pattern uint32) []byte {
	b = bytes.Clone(b)
	for i := range 32 {
		if pattern>>i&1 == 1 && from+i < 8*len(b) {
			b[(from+i)/8] ^= 1 << ((from + i) % 8)
		}
	}
	return b
}

func TestP208Bursts(t *testing.T) {
	var d dice
	for _, f := range forms() {
		for _, whole := range f.records() {
			for from := range 8 * f.size {
				patterns := []uint32{1, 3, 0xFF, 0xFFFF, 0xFFFFFFFF, 0x80000001, 0x82F63B79, 0xEDB88321}
				for range 12 {
					patterns = append(patterns, uint32(d.below(1<<31))<<1|1)
				}
				for _, p := range patterns {
					if answer, e := f.decodes(turn(whole, from, p)); e != api.ErrCorrupt || answer != f.none {
						t.Fatalf("a %s with the bits %#x from %d on turned over: %v, %v", f.name, p, from, answer, e)
					}
				}
			}
		}
	}
}

// Of an empty node only a burst in its first bytes could make another: its kind stands in the first byte, and its sum, out of reach, would be 0.
func TestP208EmptyNode(t *testing.T) {
	for kind := range 4 {
		for links := range api.MaxLinks + 1 {
			for parent := range 256 {
				b := make([]byte, 128)
				b[0], b[2], b[4] = byte(kind), byte(links), byte(parent)
				want := api.ErrCorrupt
				if kind+links+parent == 0 {
					want = api.OK
				}
				if n, e := codec.DecodeNode(b); e != want || n != (api.Node{}) {
					t.Errorf("a node of kind %d, links %d, parent %d without a sum: %v, %v", kind, links, parent, n, e)
				}
			}
		}
	}
}

func TestP209Sums(t *testing.T) {
	var d dice
	for n := range 300 {
		a, b, c := d.bytes(n), d.bytes(n), d.bytes(n)
		mixed := make([]byte, n)
		for i := range mixed {
			mixed[i] = a[i] ^ b[i] ^ c[i]
		}
		if got, want := codec.Sum(mixed), codec.Sum(a)^codec.Sum(b)^codec.Sum(c); got != want {
			t.Errorf("the sum of three mixed lists of %d bytes: %#x, want %#x", n, got, want)
		}
		sum := codec.Sum(a)
		if got := codec.Sum(append(a, byte(sum), byte(sum>>8), byte(sum>>16), byte(sum>>24))); got != 0x48674BC7 {
			t.Errorf("the sum of %d bytes and their sum: %#x", n, got)
		}
	}
}

// P1, P4: whatever the bytes are, a decoder ends, and answers as the model does.
func TestP1Junk(t *testing.T) {
	var d dice
	for _, f := range forms() {
		for range 3000 {
			f.check(t, "junk", d.bytes(f.size))
			f.check(t, "junk with a sum", resum(d.bytes(f.size)))
			sparse := make([]byte, f.size)
			for range d.below(6) {
				sparse[d.below(f.size)] = byte(d.below(256))
			}
			f.check(t, "sparse junk", sparse)
			f.check(t, "sparse junk with a sum", resum(bytes.Clone(sparse)))
			mixed := bytes.Clone(f.records()[d.below(len(f.records()))])
			for range 1 + d.below(4) {
				mixed[d.below(f.size-4)] ^= 1 << d.below(8)
			}
			f.check(t, "a record with bits turned over, and a sum", resum(mixed))
		}
	}
}

// P2, P3: what an encoder answered is the caller's own, spare room too; and nothing is kept.
func TestP2NewMemory(t *testing.T) {
	encoders := map[string]func() []byte{
		"super":       func() []byte { b, _ := codec.EncodeSuper(goodSupers()[0]); return b },
		"node":        func() []byte { b, _ := codec.EncodeNode(goodNodes()[7]); return b },
		"empty node":  func() []byte { b, _ := codec.EncodeNode(api.Node{}); return b },
		"entry":       func() []byte { b, _ := codec.EncodeEntry(goodEntries()[1]); return b },
		"empty entry": func() []byte { b, _ := codec.EncodeEntry(api.Entry{}); return b },
	}
	for name, encode := range encoders {
		first := encode()
		kept := bytes.Clone(first)
		second := encode()
		for i := range cap(second) {
			second[:cap(second)][i] ^= 0xFF
		}
		if !bytes.Equal(first, kept) || !bytes.Equal(encode(), kept) {
			t.Errorf("writing into an encoded %s is seen elsewhere", name)
		}
	}
	b, _ := codec.EncodeEntry(api.Entry{Node: 1, Kind: 1, Name: "kept"})
	x, _ := codec.DecodeEntry(b)
	clear(b)
	if x.Name != "kept" {
		t.Errorf("a decoded name changed with its bytes: %q", x.Name)
	}
}
