package patch_test

import (
	"bytes"
	"encoding/binary"
	"fmt"
	"testing"

	"vellum/api"
	"vellum/patch"
	"vellum/site"
	"vellum/trial"
)

// some are a few patches of which the tests make others.
func some() [][]byte {
	return [][]byte{
		bytesOf(api.Patch{}), bytesOf(of(drop("/a"))), bytesOf(of(put(dirItem("/d")))), bytesOf(of(drop("/a"), put(linkItem("/d/\xff", "\xff")), put(nameItem("/e", "/d/f")))),
		bytesOf(of(edit(513, rows(run(0, 2)), run(0, 1)))), bytesOf(of(edit(9000, rows(run(0, 5), run(6, 9)), run(0, 1), run(8, 9)))), bytesOf(of(edit(900, nil), put(fileItem("/g", 600, 512, run(1, 2))))),
		bytesOf(of(drop("/a"), put(fileItem("/b", 3, 0)), edit(3000, rows(run(1, 2), run(3, 4))), put(nameItem("/g", "/b")), drop("/h"))),
	}
}

func TestP1802Patches(t *testing.T) {
	for i, b := range some() {
		if !asWords(t, fmt.Sprint("patch ", i), b) {
			t.Errorf("patch %d is none", i)
		}
	}
	refuses(t, "nil", nil)
	refuses(t, "nothing", []byte{})
	archive := []byte{118, 108, 109, 97, 114, 99, 104, 1, 0, 0, 0, 0, 0, 248, 16, 120, 206}
	refuses(t, "an archive", archive)
}

// A byte too few, at either end, or some more, is no patch; with the right sum behind it neither.
func TestP1802Length(t *testing.T) {
	for _, p := range some() {
		for n := range p {
			refuses(t, fmt.Sprintf("the first %d bytes", n), p[:n])
			refuses(t, fmt.Sprintf("the first %d bytes, with their sum", n), site.Resummed(p[:n]))
			if n > 0 {
				refuses(t, fmt.Sprintf("all but %d bytes", n), p[n:])
			}
		}
		for _, tail := range [][]byte{{0}, {1}, {0, 0, 0, 0}, make([]byte, 9), make([]byte, 600), p} {
			longer := append(bytes.Clone(p), tail...)
			refuses(t, "more bytes", longer)
			refuses(t, "more bytes, with their sum", site.Resummed(longer))
			refuses(t, "bytes ahead", append(bytes.Clone(tail), p...))
		}
	}
}

// The edges of how long a patch may be, and of how many changes it may have.
func TestP1802Long(t *testing.T) {
	t.Parallel()
	for _, n := range []int{1<<24 - 1, 1 << 24} {
		p := long(n)
		lists(t, "the longest", bytesOf(p), p)
	}
	for _, b := range [][]byte{bytesOf(long(1<<24 + 1)), make([]byte, 1<<24+1), make([]byte, 20<<20), append(bytesOf(long(1<<24)), 0)} {
		if p, e := patch.List(b); e != api.ErrLong || !samePatch(p, api.Patch{}) {
			t.Errorf("P1802: List of %d bytes: %v, want ErrLong", len(b), e)
		}
	}
	refuses(t, "zeros", make([]byte, 1<<24))
	for x := byte(1); x <= 4; x++ {
		refuses(t, "one byte again and again", bytes.Repeat([]byte{x}, 1<<24))
		refuses(t, "one byte behind a beginning", site.Resummed(append([]byte("vlpatch\x01"), bytes.Repeat([]byte{x}, 1<<23)...)))
	}
	refuses(t, "short changes", site.Resummed(append([]byte("vlpatch\x01"), bytes.Repeat([]byte{1, 0, 0}, 1<<22)...)))
	lists(t, "8192 changes", bytesOf(of(dropped(8192)...)), of(dropped(8192)...))
	for _, n := range []int{8193, 8194, 20000} {
		refuses(t, fmt.Sprint(n, " changes"), bytesOf(of(dropped(n)...)))
	}
	few := bytesOf(of(dropped(8193)...))
	low.PutUint32(few[len(few)-8:], 8192)
	refuses(t, "8193 changes said to be 8192", site.Resummed(few))
}

// Any one byte that is changed: it is no patch. That with the right sum behind it is one or not, as the words say.
func TestP1802Bytes(t *testing.T) {
	t.Parallel()
	d := trial.NewDice(1802)
	others := 0
	for i, p := range some() {
		for at := range p {
			for _, x := range []byte{1, 2, 4, 8, 16, 32, 64, 128, 255, byte(1 + d.Below(255))} {
				b := bytes.Clone(p)
				b[at] ^= x
				refuses(t, fmt.Sprintf("patch %d with byte %d changed", i, at), b)
				if at < len(p)-4 && asWords(t, fmt.Sprintf("patch %d with byte %d changed, and the sum", i, at), site.Resummed(b)) {
					others++
				}
			}
		}
	}
	if others < 1000 {
		t.Errorf("%d other patches are few", others)
	}
	small := bytesOf(of(drop("/a"), edit(513, rows(run(0, 2))), put(linkItem("/l", "x"))))
	for at := range small {
		for x := 1; x < 256; x++ {
			b := bytes.Clone(small)
			b[at] ^= byte(x)
			refuses(t, fmt.Sprintf("byte %d changed by %d", at, x), b)
			asWords(t, fmt.Sprintf("byte %d changed by %d, and the sum", at, x), site.Resummed(b))
		}
	}
}

// A number that is much greater than may be is refused, and nothing is waited for; also where the lower part of it would be right.
func TestP1802GreatNumbers(t *testing.T) {
	first := bytesOf(of(edit(600, rows(run(0, 2)), run(0, 2))))
	for _, n := range []struct{ at, width int }{{17, 2}, {21, 8}, {29, 4}, {33, 4}, {37, 4}, {41, 4}, {45, 4}, {49, 4}, {len(first) - 8, 4}} {
		for bit := range 8 * n.width {
			b := bytes.Clone(first)
			b[n.at+bit/8] ^= 1 << (bit % 8)
			asWords(t, fmt.Sprintf("the number at %d with bit %d turned", n.at, bit), site.Resummed(b))
		}
		b := bytes.Clone(first)
		for i := range n.width {
			b[n.at+i] = 0xFF
		}
		refuses(t, fmt.Sprintf("the number at %d, all ones", n.at), site.Resummed(b))
	}
	runs := append([]byte("vlpatch\x01\x00\x00\x00\x00\x00\x00\x00\x00"), 3, 2, 0, '/', 'f', 0, 2, 0, 0, 0, 0, 0, 0)
	for _, count := range []uint32{1 << 20, 1<<32 - 1} {
		world := binary.LittleEndian.AppendUint32(bytes.Clone(runs), count)
		for range 1 << 20 {
			world = append(world, 0, 0, 0, 0, 255, 255, 255, 255)
		}
		refuses(t, "runs of all the world", site.Resummed(append(world, make([]byte, 9+512)...)))
		none := binary.LittleEndian.AppendUint32(bytes.Clone(runs), 0)
		refuses(t, "a set of all the world", site.Resummed(append(append(none, world[len(runs):]...), make([]byte, 9+512)...)))
	}
}

// Drawn patches to which drawn things were done, and whose sum is right.
func TestP1802Drawn(t *testing.T) {
	t.Parallel()
	d := newGardener(18021)
	taken, refused := 0, 0
	for range 6000 {
		p := d.patch()
		for range d.Below(2) {
			d.spoil(&p)
		}
		b := bytesOf(p)
		for range d.Below(3) {
			b = site.Edited(d.Dice, b)
			if len(b) < 25 {
				break
			}
		}
		if asWords(t, "a drawn one", site.Resummed(b)) {
			taken++
		} else {
			refused++
		}
		if junk := d.Bytes(d.Below(60)); d.Below(4) == 0 {
			refuses(t, "junk", junk)
			refuses(t, "junk behind a beginning", site.Resummed(append([]byte("vlpatch\x01"), junk...)))
		}
	}
	if taken < 1000 || refused < 1000 {
		t.Errorf("the draw is thin: %d taken, %d refused", taken, refused)
	}
}

// What is handed in is not changed and not kept; what is answered is new memory, each list by itself.
func TestP2List(t *testing.T) {
	make1 := func() api.Patch {
		return of(put(fileItem("/c", 9000, 512*5, run(0, 2), run(4, 7))), edit(9000, rows(run(0, 3), run(5, 7)), run(0, 1), run(5, 6)), put(fileItem("/g", 1, 0)))
	}
	b := bytesOf(make1())
	was := bytes.Clone(b)
	p, _ := patch.List(b)
	for i := range b {
		b[i] = 0xEE
	}
	if !samePatch(p, make1()) {
		t.Error("P2: what List tells hangs on its argument's memory")
	}
	copy(b, was)
	for _, c := range p.Changes {
		_ = append(c.Item.Data, 7, 7, 7)
		_ = append(c.Item.Runs, run(7, 7))
		_ = append(c.Set, run(7, 7))
	}
	_ = append(p.Changes, drop("/x"))
	if !samePatch(p, make1()) || !bytes.Equal(b, was) {
		t.Error("P2: what is appended to one list is seen in another")
	}
	for i, c := range p.Changes {
		one := make1().Changes[i]
		for j := range c.Item.Data {
			c.Item.Data[j] = 0xEE
		}
		for j := range c.Item.Runs {
			c.Item.Runs[j] = run(-1, -1)
		}
		for j, row := range c.Set {
			if row != one.Set[j] {
				t.Error("P2: two lists of an answer share memory")
			}
			c.Set[j] = run(-1, -1)
		}
	}
	if !bytes.Equal(b, was) {
		t.Error("P2: what List tells is its argument's memory")
	}
	lists(t, "again", b, make1())
}
