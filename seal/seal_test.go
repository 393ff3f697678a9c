package seal_test

import (
	"bytes"
	"math"
	"testing"

	"vellum/api"
	"vellum/disk"
	"vellum/seal"
)

func ends(first, last byte) []byte {
	s := make([]byte, 512)
	s[0], s[511] = first, last
	return s
}

func filled(n int, x byte) []byte { return bytes.Repeat([]byte{x}, n) }

// numbered is an anchor's body.
func numbered(number uint64, data string) []byte {
	b := make([]byte, 8)
	for i := range b {
		b[i] = byte(number >> (8 * i))
	}
	return append(b, data...)
}

// anchored is an anchor over zeros.
func anchored(number uint64, data string) []byte {
	b := numbered(number, data)
	return built(1, len(b), b, 1)
}

// kept asks P2 of a call: its lists are as they were.
func kept(t *testing.T, lists ...[]byte) func() {
	t.Helper()
	var were [][]byte
	for _, l := range lists {
		were = append(were, bytes.Clone(l))
	}
	return func() {
		t.Helper()
		for i, l := range lists {
			if !bytes.Equal(l, were[i]) {
				t.Errorf("P2: the call changed list %d", i)
			}
		}
	}
}

// The five calls, each held against the model.

func seals(t *testing.T, old, body []byte) ([]byte, api.Errno) {
	t.Helper()
	defer kept(t, old, body)()
	got, e := seal.Seal(old, body)
	want, wantE := modelSeal(old, body)
	if e != wantE || !bytes.Equal(got, want) {
		t.Errorf("P301: Seal of %d bytes over %d: %v, %v, want %v, %v", len(body), len(old), got, e, want, wantE)
	}
	return got, e
}

func opens(t *testing.T, s []byte) ([]byte, api.Errno) {
	t.Helper()
	defer kept(t, s)()
	got, e := seal.Open(s)
	want, wantE := modelOpen(s)
	if e != wantE || !bytes.Equal(got, want) {
		t.Errorf("P301: Open of %v: %v, %v, want %v, %v", s, got, e, want, wantE)
	}
	return got, e
}

func splices(t *testing.T, a, b []byte, cut int) ([]byte, api.Errno) {
	t.Helper()
	defer kept(t, a, b)()
	got, e := seal.Splice(a, b, cut)
	want, wantE := modelSplice(a, b, cut)
	if e != wantE || !bytes.Equal(got, want) {
		t.Errorf("P304: Splice of %d and %d bytes at %d: %v, %v, want %v, %v", len(a), len(b), cut, got, e, want, wantE)
	}
	return got, e
}

type found struct {
	slot, number int
	data         string
	e            api.Errno
}

func finds(t *testing.T, left, right []byte) found {
	t.Helper()
	defer kept(t, left, right)()
	slot, number, data, e := seal.Newest(left, right)
	got := found{slot, number, string(data), e}
	slot, number, data, e = modelNewest(left, right)
	if want := (found{slot, number, string(data), e}); got != want {
		t.Errorf("P304: Newest: %v, want %v", got, want)
	}
	return got
}

func renews(t *testing.T, left, right []byte, number int, data []byte) (int, []byte, api.Errno) {
	t.Helper()
	defer kept(t, left, right, data)()
	slot, s, e := seal.Renew(left, right, number, data)
	wantSlot, want, wantE := modelRenew(left, right, number, data)
	if slot != wantSlot || e != wantE || !bytes.Equal(s, want) {
		t.Errorf("P304: Renew with %d, %d bytes: %d, %v, %v, want %d, %v, %v", number, len(data), slot, s, e, wantSlot, want, wantE)
	}
	return slot, s, e
}

// olds are contents of a sector of every sort: sealed, torn, any bytes.
func olds() [][]byte {
	list := [][]byte{
		ends(0, 0), ends(0, 1), ends(1, 0), ends(0, 2), ends(2, 0), ends(1, 2), ends(2, 1), ends(1, 7), ends(7, 7), ends(255, 0), filled(512, 255),
		built(0, 0, nil, 0), built(1, 3, []byte("abc"), 1), built(2, 504, filled(504, 255), 2), built(1, 3, []byte("abc"), 0),
		anchored(1, ""), anchored(math.MaxInt64, "most"),
	}
	d := dice(301)
	for range 5 {
		list = append(list, d.bytes(512))
	}
	return list
}

func bodies() [][]byte {
	d := dice(302)
	return [][]byte{nil, {}, {0}, {255}, []byte("abc"), filled(7, 9), numbered(5, "x"), filled(255, 1), filled(256, 2), filled(503, 3), filled(504, 0), filled(504, 255), d.bytes(100), d.bytes(504)}
}

func TestP301Examples(t *testing.T) {
	first, e := seal.Seal(make([]byte, 512), []byte("abc"))
	if e != api.OK || len(first) != 512 || !bytes.Equal(first[:11], []byte{1, 3, 0, 1, 50, 125, 34, 97, 98, 99, 0}) || first[511] != 1 {
		t.Fatalf("example 1: %v, %v", first, e)
	}
	second, e := seal.Seal(first, nil)
	if e != api.OK || len(second) != 512 || !bytes.Equal(second[:8], []byte{0, 0, 0, 148, 165, 15, 21, 0}) || second[511] != 0 {
		t.Fatalf("example 2: %v, %v", second, e)
	}
	for _, c := range []struct{ first, last, turn byte }{{0, 1, 2}, {0, 2, 1}, {1, 7, 0}, {7, 7, 0}} {
		if s, e := seal.Seal(ends(c.first, c.last), nil); e != api.OK || s[0] != c.turn || s[511] != c.turn {
			t.Errorf("example 3: over the ends %d and %d: %v, %v", c.first, c.last, s, e)
		}
	}
	torn, e := seal.Splice(first, second, 256)
	if e != api.OK || len(torn) != 512 || torn[0] != 1 || torn[511] != 0 {
		t.Errorf("example 4: %v, %v", torn, e)
	}
	if b, e := seal.Open(torn); e != api.ErrTorn || len(b) != 0 {
		t.Errorf("example 4: Open: %v, %v", b, e)
	}
}

// The turn hangs on both ends, and on nothing between them.
func TestP301TurnOverAllEnds(t *testing.T) {
	for first := range 256 {
		for last := range 256 {
			old := ends(byte(first), byte(last))
			old[1], old[256], old[510] = 0, 1, 2
			seals(t, old, nil)
		}
	}
}

func TestP301SealAllLengths(t *testing.T) {
	d := dice(1)
	for n := range 507 {
		seals(t, ends(0, 0), d.bytes(n))
		seals(t, ends(1, 0), make([]byte, n))
	}
	for _, old := range []int{0, 1, 504, 511, 513, 1024} {
		for _, body := range []int{0, 3, 504, 505, 600} {
			if _, e := seals(t, make([]byte, old), make([]byte, body)); e != api.ErrLength {
				t.Errorf("Seal of %d bytes over %d: %v", body, old, e)
			}
		}
	}
	for _, body := range []int{505, 506, 512, 1 << 16, 1<<16 + 3} {
		if _, e := seals(t, make([]byte, 512), make([]byte, body)); e != api.ErrLong {
			t.Errorf("Seal of %d bytes: %v", body, e)
		}
	}
}

func TestP301OpenLength(t *testing.T) {
	s := built(1, 3, []byte("abc"), 1)
	for _, n := range []int{0, 1, 7, 10, 511} {
		if _, e := opens(t, s[:n]); e != api.ErrLength {
			t.Errorf("Open of %d bytes: %v", n, e)
		}
	}
	for _, n := range []int{1, 512} {
		if _, e := opens(t, append(bytes.Clone(s), make([]byte, n)...)); e != api.ErrLength {
			t.Errorf("Open of %d bytes: %v", 512+n, e)
		}
	}
	if _, e := opens(t, nil); e != api.ErrLength {
		t.Errorf("Open of nil: %v", e)
	}
}

// Each thing that a sealed sector must have, broken alone: all else is right, the sum too.
func TestP301OpenEachRule(t *testing.T) {
	if _, e := opens(t, make([]byte, 512)); e != api.ErrTorn {
		t.Errorf("Open of zeros: %v", e)
	}
	for first := range 256 {
		for last := range 256 {
			_, e := opens(t, built(byte(first), 3, []byte("abc"), byte(last)))
			if whole := first == last && first < 3; whole != (e == api.OK) {
				t.Errorf("Open of the ends %d and %d: %v", first, last, e)
			}
		}
	}
	for length := range 1 << 16 {
		_, e := opens(t, built(1, length, filled(504, 7), 1))
		if (length == 504) != (e == api.OK) {
			t.Errorf("Open of 504 bytes with the length %d: %v", length, e)
		}
	}
	for length := range 505 {
		if b, e := opens(t, built(2, length, nil, 2)); e != api.OK || len(b) != length {
			t.Errorf("Open of %d zeros: %d bytes, %v", length, len(b), e)
		}
	}
}

func TestP301OpenBehindTheBody(t *testing.T) {
	for at := range 504 {
		body := make([]byte, 504)
		body[at] = 1
		for _, length := range []int{0, at, at + 1} {
			_, e := opens(t, built(0, length, body, 0))
			if (length > at) != (e == api.OK) {
				t.Errorf("Open with the length %d and a byte at %d: %v", length, at, e)
			}
		}
	}
}

func TestP301OpenAnyBytes(t *testing.T) {
	d := dice(7)
	for range 2000 {
		s := d.bytes(512)
		opens(t, s)
		s[0] = byte(d.below(4))
		s[511] = byte(d.below(4))
		s[2] = byte(d.below(3))
		opens(t, resum(s))
		length := int(s[1]) + 256*int(s[2])
		if length < 504 {
			clear(s[7+length : 511])
		}
		opens(t, resum(s))
	}
}

func TestP302ThereAndBack(t *testing.T) {
	for _, old := range olds() {
		for _, body := range bodies() {
			s, e := seals(t, old, body)
			if e != api.OK {
				t.Fatalf("Seal: %v", e)
			}
			if b, e := opens(t, s); e != api.OK || !bytes.Equal(b, body) {
				t.Errorf("Open of what was sealed: %v, %v, want %v", b, e, body)
			}
		}
	}
}

// wantWhole asks P303 of both mixtures at every cut.
func wantWhole(t *testing.T, old, body []byte) {
	t.Helper()
	s, e := seal.Seal(old, body)
	if e != api.OK {
		t.Fatalf("Seal: %v", e)
	}
	for cut := range 513 {
		for _, way := range [2][2][]byte{{old, s}, {s, old}} {
			torn, e := seal.Splice(way[0], way[1], cut)
			if e != api.OK {
				t.Fatalf("Splice at %d: %v", cut, e)
			}
			if _, e := seal.Open(torn); e != api.ErrTorn && !bytes.Equal(torn, old) && !bytes.Equal(torn, s) {
				t.Fatalf("a mixture at %d opens: the ends of the old %d and %d, of the new %d", cut, old[0], old[511], s[0])
			}
		}
	}
}

func TestP303Torn(t *testing.T) {
	all := bodies()
	for i, old := range olds() {
		wantWhole(t, old, all[i%len(all)])
		wantWhole(t, old, all[(i+5)%len(all)])
	}
}

// Old contents that have the new one's very bytes between their ends: nothing but the turn can tell the mixture.
func TestP303OldLikeNew(t *testing.T) {
	for _, body := range [][]byte{nil, []byte("abc"), filled(504, 1)} {
		for _, first := range []byte{0, 1, 2, 3} {
			for _, last := range []byte{0, 1, 2, 255} {
				wantWhole(t, built(first, len(body), body, last), body)
			}
		}
	}
}

func TestP304Splice(t *testing.T) {
	d := dice(304)
	a, b := d.bytes(512), d.bytes(512)
	for cut := range 513 {
		splices(t, a, b, cut)
	}
	if s, e := seal.Splice(a, b, 0); e != api.OK || !bytes.Equal(s, b) {
		t.Errorf("the cut 0: %v, %v", s, e)
	}
	if s, e := seal.Splice(a, b, 512); e != api.OK || !bytes.Equal(s, a) {
		t.Errorf("the cut 512: %v, %v", s, e)
	}
	for _, c := range []struct {
		a, b, cut int
		e         api.Errno
	}{
		{511, 512, 0, api.ErrLength}, {513, 512, 0, api.ErrLength}, {512, 511, 512, api.ErrLength}, {512, 513, 5, api.ErrLength},
		{0, 512, -1, api.ErrLength}, {512, 0, 513, api.ErrLength}, {0, 0, 0, api.ErrLength}, {1024, 1024, 100, api.ErrLength},
		{512, 512, -1, api.ErrArg}, {512, 512, 513, api.ErrArg}, {512, 512, math.MinInt, api.ErrArg}, {512, 512, math.MaxInt, api.ErrArg}, {512, 512, 1 << 32, api.ErrArg},
	} {
		if _, e := splices(t, make([]byte, c.a), make([]byte, c.b), c.cut); e != c.e {
			t.Errorf("Splice of %d and %d bytes at %d: %v, want %v", c.a, c.b, c.cut, e, c.e)
		}
	}
}

// sides are sectors for a pair, with all that is and is not an anchor.
func sides() [][]byte {
	list := [][]byte{
		make([]byte, 512), filled(512, 255),
		built(0, 0, nil, 0), built(1, 7, filled(7, 9), 1), // too short for a number
		anchored(0, ""), anchored(0, "zero"),
		anchored(1<<63, "over"), anchored(math.MaxUint64, ""),
		anchored(1, ""), anchored(2, "two"), anchored(7, "seven"), anchored(7, "again"), anchored(9, string(filled(496, 255))),
		anchored(255, ""), anchored(256, "x"), anchored(1<<32, ""), anchored(1<<32+1, "y"), anchored(math.MaxInt64-1, ""), anchored(math.MaxInt64, "most"),
		built(2, 9, numbered(5, "x"), 1), built(3, 9, numbered(5, "x"), 3), // not sealed
		built(2, 9, numbered(5, "x"), 2), built(0, 8, numbered(5, ""), 0),
	}
	rotten := anchored(6, "rotten")
	rotten[20] ^= 1
	return append(list, rotten)
}

func TestP304Newest(t *testing.T) {
	for _, left := range sides() {
		for _, right := range sides() {
			finds(t, left, right)
		}
	}
	for _, c := range []struct {
		what        string
		left, right []byte
		want        found
	}{
		{"zeros", make([]byte, 512), make([]byte, 512), found{e: api.ErrTorn}},
		{"7 and 9", anchored(7, "l"), anchored(9, "r"), found{1, 9, "r", api.OK}},
		{"9 and 7", anchored(9, "l"), anchored(7, "r"), found{0, 9, "l", api.OK}},
		{"7 twice", anchored(7, "l"), anchored(7, "r"), found{0, 7, "l", api.OK}},
		{"7 bytes and 3", built(1, 7, filled(7, 9), 1), anchored(3, ""), found{1, 3, "", api.OK}},
		{"the greatest", anchored(math.MaxInt64, "m"), anchored(math.MaxUint64, ""), found{0, math.MaxInt64, "m", api.OK}},
		{"511 at the left", make([]byte, 511), anchored(3, ""), found{e: api.ErrLength}},
		{"513 at the left", make([]byte, 513), anchored(3, ""), found{e: api.ErrLength}},
		{"nothing at the right", anchored(3, ""), nil, found{e: api.ErrLength}},
		{"513 at the right", anchored(3, ""), append(anchored(4, ""), 0), found{e: api.ErrLength}},
	} {
		if got := finds(t, c.left, c.right); got != c.want {
			t.Errorf("%s: %v, want %v", c.what, got, c.want)
		}
	}
}

func TestP304Renew(t *testing.T) {
	d := dice(305)
	for _, left := range sides() {
		for _, right := range sides() {
			for _, number := range []int{math.MinInt, -1, 0, 1, 5, 6, 8, 257, 1<<32 + 2, math.MaxInt - 1, math.MaxInt} {
				renews(t, left, right, number, d.bytes(d.below(500)))
			}
			if _, newest, _, e := modelNewest(left, right); e == api.OK && newest < math.MaxInt {
				renews(t, left, right, newest, nil)
				renews(t, left, right, newest+1, nil)
			}
		}
	}
}

func TestP304RenewErrors(t *testing.T) {
	zeros, five := make([]byte, 512), anchored(5, "x")
	for _, c := range []struct {
		what        string
		left, right []byte
		number      int
		data        int
		slot        int
		e           api.Errno
	}{
		{"511 ahead of all", five[:511], five[:500], 0, 497, 0, api.ErrLength},
		{"511 at the right", five, zeros[1:], 0, 497, 0, api.ErrLength},
		{"nil at the left", nil, five, 6, 0, 0, api.ErrLength},
		{"number ahead of data", five, zeros, 0, 497, 0, api.ErrArg},
		{"below 1", five, zeros, -5, 0, 0, api.ErrArg},
		{"data ahead of what lies there", five, zeros, 5, 497, 0, api.ErrLong},
		{"497 bytes", zeros, zeros, 1, 497, 0, api.ErrLong},
		{"the same number", five, zeros, 5, 496, 0, api.ErrStale},
		{"a lesser number", zeros, five, 4, 0, 0, api.ErrStale},
		{"above", five, zeros, 6, 496, 1, api.OK},
		{"above at the right", zeros, five, 6, 496, 0, api.OK},
		{"into zeros", zeros, zeros, 1, 0, 0, api.OK},
		{"the greatest", five, zeros, math.MaxInt, 0, 1, api.OK},
		{"behind the greatest", anchored(math.MaxInt64, ""), zeros, math.MaxInt, 0, 0, api.ErrStale},
		{"below 1 behind the greatest", anchored(math.MaxInt64, ""), zeros, math.MinInt, 0, 0, api.ErrArg},
	} {
		slot, s, e := renews(t, c.left, c.right, c.number, make([]byte, c.data))
		if slot != c.slot || e != c.e || (e == api.OK) != (len(s) == 512) || e != api.OK && len(s) != 0 {
			t.Errorf("%s: slot %d, %d bytes, %v, want %d, %v", c.what, slot, len(s), e, c.slot, c.e)
		}
	}
}

func TestP304Example5(t *testing.T) {
	zeros := make([]byte, 512)
	slot, s, e := seal.Renew(zeros, zeros, 5, []byte("x"))
	if slot != 0 || e != api.OK || !bytes.Equal(s, built(1, 9, []byte{5, 0, 0, 0, 0, 0, 0, 0, 120}, 1)) {
		t.Fatalf("Renew of zeros: %d, %v, %v", slot, s, e)
	}
	if got := finds(t, s, zeros); got != (found{0, 5, "x", api.OK}) {
		t.Errorf("Newest of it: %v", got)
	}
	if _, _, e := seal.Renew(s, zeros, 5, nil); e != api.ErrStale {
		t.Errorf("Renew with 5 again: %v", e)
	}
	slot, s, e = seal.Renew(s, zeros, 6, nil)
	if slot != 1 || e != api.OK || s[0] != 1 || s[511] != 1 {
		t.Errorf("Renew with 6: %d, %v, %v", slot, s, e)
	}
}

// with is the pair with that sector in that slot.
func with(pair [2][]byte, slot int, s []byte) [2][]byte {
	pair[slot] = s
	return pair
}

// wantPair asks P305 of a pair, with every splice of the two contents of the slot.
func wantPair(t *testing.T, pair [2][]byte, number int, data []byte) {
	t.Helper()
	before := finds(t, pair[0], pair[1])
	slot, s, e := seal.Renew(pair[0], pair[1], number, data)
	if e != api.OK {
		t.Fatalf("Renew with %d: %v", number, e)
	}
	behind := found{slot, number, string(data), api.OK}
	whole := with(pair, slot, s)
	if got := finds(t, whole[0], whole[1]); got != behind {
		t.Fatalf("Newest behind Renew: %v, want %v", got, behind)
	}
	for cut := range 513 {
		for _, way := range [2][2][]byte{{pair[slot], s}, {s, pair[slot]}} {
			torn, _ := seal.Splice(way[0], way[1], cut)
			p := with(pair, slot, torn)
			slot, number, data, e := seal.Newest(p[0], p[1])
			got := found{slot, number, string(data), e}
			if got != behind && got != before {
				t.Fatalf("torn at %d: %v, want %v or %v", cut, got, before, behind)
			}
			if bytes.Equal(torn, s) && got != behind {
				t.Fatalf("whole at %d: %v, want %v", cut, got, behind)
			}
		}
	}
}

func TestP305Pair(t *testing.T) {
	d := dice(305)
	for i, left := range sides() {
		for j, right := range sides() {
			pair := [2][]byte{left, right}
			_, newest, _, e := modelNewest(left, right)
			if (i+j)%3 != 0 || e == api.OK && newest == math.MaxInt {
				continue
			}
			wantPair(t, pair, newest+1, d.bytes(d.below(497)))
		}
	}
}

// A long chain of them, in which each new one lies over an anchor and not over zeros.
func TestP305Chain(t *testing.T) {
	d := dice(306)
	pair := [2][]byte{make([]byte, 512), make([]byte, 512)}
	number := 0
	for range 40 {
		number += 1 + d.below(300)
		data := d.bytes(d.below(497))
		wantPair(t, pair, number, data)
		slot, s, _ := seal.Renew(pair[0], pair[1], number, data)
		pair = with(pair, slot, s)
	}
}

// onDisk lays a pair durably on a disk, writes what Renew tells, and lets the power go.
func onDisk(t *testing.T, pair [2][]byte, places [2]int, number int, data []byte, flush bool, pick api.Pick) found {
	t.Helper()
	d, _ := disk.New(4)
	d.Write(places[0], pair[0])
	d.Write(places[1], pair[1])
	d.Flush()
	slot, s, e := seal.Renew(pair[0], pair[1], number, data)
	if e != api.OK || d.Write(places[slot], s) != api.OK {
		t.Fatalf("Renew: %v", e)
	}
	if flush {
		d.Flush()
	}
	d.Crash([]api.Pick{pick})
	left, _ := d.Read(places[0])
	right, _ := d.Read(places[1])
	return finds(t, left, right)
}

func TestP306OnADisk(t *testing.T) {
	data := []byte("the new one")
	for _, pair := range [][2][]byte{
		{make([]byte, 512), make([]byte, 512)},
		{anchored(3, "left"), make([]byte, 512)},
		{anchored(3, "left"), anchored(4, "right")},
		{anchored(4, "left"), anchored(3, "right")},
		{filled(512, 2), anchored(8, "right")},
	} {
		for _, places := range [][2]int{{1, 2}, {3, 0}} {
			before := finds(t, pair[0], pair[1])
			slot, _, _ := seal.Renew(pair[0], pair[1], 9, data)
			behind := found{slot, 9, string(data), api.OK}
			for cut := 0; cut <= 512; cut += 8 {
				for _, pick := range []api.Pick{{A: 0, B: 1, Cut: cut}, {A: 1, B: 0, Cut: cut}} {
					if got := onDisk(t, pair, places, 9, data, false, pick); got != before && got != behind {
						t.Fatalf("the pick %v: %v, want %v or %v", pick, got, before, behind)
					}
				}
			}
			if got := onDisk(t, pair, places, 9, data, false, api.Pick{}); got != before {
				t.Errorf("lost: %v, want %v", got, before)
			}
			if got := onDisk(t, pair, places, 9, data, false, api.Pick{A: 1, B: 1}); got != behind {
				t.Errorf("kept: %v, want %v", got, behind)
			}
			if got := onDisk(t, pair, places, 9, data, true, api.Pick{Cut: 100}); got != behind {
				t.Errorf("flushed: %v, want %v", got, behind)
			}
		}
	}
}

// wantRot asks that the sector is not sealed with these bits turned; bit 0 is the lowest of byte 0.
func wantRot(t *testing.T, s []byte, bits ...int) {
	t.Helper()
	for _, bit := range bits {
		s[bit/8] ^= 1 << (bit % 8)
	}
	if b, e := seal.Open(s); e != api.ErrTorn || len(b) != 0 {
		t.Fatalf("the bits %v turned: %v, %v", bits, b, e)
	}
	for _, bit := range bits {
		s[bit/8] ^= 1 << (bit % 8)
	}
}

func TestP307Bits(t *testing.T) {
	const from, many = 8, 510 * 8
	d := dice(307)
	for _, s := range [][]byte{built(0, 0, nil, 0), built(1, 3, []byte("abc"), 1), built(2, 504, d.bytes(504), 2)} {
		for bit := range many {
			wantRot(t, s, from+bit)
			other := (bit + 1 + d.below(many-1)) % many
			wantRot(t, s, from+bit, from+other)
			third := d.below(many)
			if third != bit && third != other {
				wantRot(t, s, from+bit, from+other, from+third)
			}
		}
	}
}

// The length, the sum and the bytes beside them, where bits that are turned can make up for one another most easily: all pairs of bits.
func TestP307BitsOfTheHead(t *testing.T) {
	s := built(1, 9, numbered(5, "x"), 1)
	for a := 8; a < 12*8; a++ {
		for b := a + 1; b < 12*8; b++ {
			wantRot(t, s, a, b)
			wantRot(t, s, a, b, 510*8+a%8)
		}
	}
}

func TestP307Neighbours(t *testing.T) {
	d := dice(308)
	for _, s := range [][]byte{built(0, 0, nil, 0), built(2, 100, d.bytes(100), 2), built(1, 504, d.bytes(504), 1)} {
		for at := 7; at+4 <= 511; at++ {
			for which := 1; which < 16; which++ { // each choice of the four bytes
				m := bytes.Clone(s)
				for i := range 4 {
					if which>>i&1 == 1 {
						m[at+i] ^= byte(1 + d.below(255))
					}
				}
				if _, e := seal.Open(m); e != api.ErrTorn {
					t.Fatalf("%v at byte %d turned into %v: %v", s[at:at+4], at, m[at:at+4], e)
				}
			}
		}
	}
}

func TestP307Ends(t *testing.T) {
	for turn := range byte(3) {
		s := built(turn, 3, []byte("abc"), turn)
		for x := 1; x < 256; x++ {
			for _, at := range []int{0, 511} {
				m := bytes.Clone(s)
				m[at] ^= byte(x)
				if _, e := opens(t, m); e != api.ErrTorn {
					t.Errorf("byte %d from %d to %d: %v", at, turn, m[at], e)
				}
			}
		}
	}
}

// scribble writes over a list and over its spare room.
func scribble(list []byte) {
	whole := list[:cap(list)]
	for i := range whole {
		whole[i] ^= 0xA5
	}
}

func TestP2NewMemory(t *testing.T) {
	old, body := ends(0, 0), []byte("abcdefghij")
	left, right := anchored(5, "left"), anchored(6, "right")
	defer kept(t, old, body, left, right)()
	for range 2 {
		s, _ := seals(t, old, body)
		again := bytes.Clone(s)
		b, _ := opens(t, again)
		scribble(b)
		opens(t, again)
		scribble(s)
		torn, _ := splices(t, left, right, 100)
		scribble(torn)
		for _, cut := range []int{0, 512} {
			torn, _ = splices(t, left, right, cut)
			scribble(torn)
		}
		_, _, data, _ := seal.Newest(left, right)
		scribble(data)
		finds(t, left, right)
		_, s, _ = renews(t, left, right, 7, body)
		scribble(s)
	}
}

// What is handed in may have spare room: a call writes into none of it.
func TestP2SpareRoomOfArguments(t *testing.T) {
	roomy := func(list []byte) []byte { return append(bytes.Clone(list), filled(600, 0xEE)...)[:len(list)] }
	left, right, data := roomy(anchored(5, "left")), roomy(anchored(6, "right")), roomy([]byte("data"))
	defer kept(t, left[:cap(left)], right[:cap(right)], data[:cap(data)])()
	seals(t, left, data)
	opens(t, left)
	splices(t, left, right, 100)
	finds(t, left, right)
	renews(t, left, right, 7, data)
}
