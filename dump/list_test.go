package dump_test

import (
	"bytes"
	"encoding/binary"
	"fmt"
	"testing"

	"vellum/api"
	"vellum/dump"
	"vellum/site"
	"vellum/trial"
)

// lists asks that List tells these items, and that Pack makes the archive of them again.
func lists(t *testing.T, archive []byte, want []api.Item) {
	t.Helper()
	items, e := dump.List(archive)
	if e != api.OK || !site.Same(items, want) {
		t.Fatalf("P1502: List of %d bytes: %d items, %v, want %d", len(archive), len(items), e, len(want))
	}
	if again, e := dump.Pack(items); e != api.OK || !bytes.Equal(again, archive) {
		t.Fatalf("P1506: Pack of what List tells: %d bytes, %v, want %d", len(again), e, len(archive))
	}
}

// refuses asks that List takes these bytes for no archive.
func refuses(t *testing.T, what string, archive []byte) {
	t.Helper()
	if items, e := dump.List(archive); e != api.ErrArchive || len(items) != 0 {
		t.Fatalf("P1502: List of %s: %d items, %v, want ErrArchive", what, len(items), e)
	}
}

// asWords asks of List what the chapter's words say of these bytes; it tells whether they are an archive.
func asWords(t *testing.T, what string, archive []byte) bool {
	t.Helper()
	items, is := itemsOf(archive)
	if is {
		lists(t, archive, items)
	} else {
		refuses(t, what, archive)
	}
	return is
}

// archives are a few of which the tests make others.
func archives() [][]byte {
	return [][]byte{
		bytesOf(nil), bytesOf(three()), bytesOf(sample()), bytesOf([]api.Item{dirItem("/d")}), bytesOf([]api.Item{dirItem("/d"), linkItem("/d/\xff", "\xff"), fileItem("/e", 513, 0)}),
		bytesOf([]api.Item{fileItem("/f", 900, 0), linkItem("/l", "text"), nameItem("/m", "/f")}),
		bytesOf([]api.Item{fileItem("/f", 3, 0), fileItem("/g", 90000, 1024, run(3, 4), run(8, 9))}),
	}
}

func TestP1502Archives(t *testing.T) {
	for i, a := range archives() {
		if !asWords(t, fmt.Sprint("archive ", i), a) {
			t.Errorf("archive %d is none", i)
		}
	}
	lists(t, bytesOf(three()), three())
	lists(t, bytesOf(nil), nil)
	refuses(t, "nil", nil)
	refuses(t, "nothing", []byte{})
}

// A byte too few, at either end, or some more, is no archive; with the right sum behind it neither.
func TestP1502Length(t *testing.T) {
	for _, a := range archives() {
		for n := range a {
			refuses(t, fmt.Sprintf("the first %d bytes", n), a[:n])
			refuses(t, fmt.Sprintf("the first %d bytes, with their sum", n), resummed(a[:n]))
			if n > 0 {
				refuses(t, fmt.Sprintf("all but %d bytes", n), a[n:])
			}
		}
		for _, tail := range [][]byte{{0}, {1}, {0, 0, 0, 0}, make([]byte, 9), make([]byte, 600), a} {
			longer := append(bytes.Clone(a), tail...)
			refuses(t, "more bytes", longer)
			refuses(t, "more bytes, with their sum", resummed(longer))
			ahead := append(bytes.Clone(tail), a...)
			refuses(t, "bytes ahead", ahead)
		}
	}
}

// The edges of how long an archive may be, and of how many items it may have.
func TestP1502Long(t *testing.T) {
	for _, n := range []int{1<<22 - 1, 1 << 22} {
		lists(t, bytesOf(filled(n)), filled(n))
	}
	for _, long := range [][]byte{bytesOf(filled(1<<22 + 1)), make([]byte, 1<<22+1), make([]byte, 5<<20), append(bytesOf(filled(1<<22)), 0)} {
		if items, e := dump.List(long); e != api.ErrLong || len(items) != 0 {
			t.Errorf("P1502: List of %d bytes: %d items, %v, want ErrLong", len(long), len(items), e)
		}
	}
	refuses(t, "zeros", make([]byte, 1<<22))
	refuses(t, "twos", bytes.Repeat([]byte{2}, 1<<22))
	refuses(t, "short items", resummed(append([]byte("vlmarch\x01"), bytes.Repeat([]byte{2, 0, 0}, 1<<20)...)))
	lists(t, bytesOf(many(4096)), many(4096))
	refuses(t, "4097 items", bytesOf(many(4097)))
	refuses(t, "4098 items", bytesOf(many(4098)))
	refuses(t, "9000 items", bytesOf(many(9000)))
	few := bytesOf(many(4097))
	binary.LittleEndian.PutUint32(few[len(few)-8:], 4096)
	refuses(t, "4097 items said to be 4096", resummed(few))
}

// Any one byte that is changed: it is no archive. That with the right sum behind it is one or not, as the words say.
func TestP1506Bytes(t *testing.T) {
	t.Parallel()
	d := trial.NewDice(1506)
	others := 0
	for i, a := range archives() {
		for at := range a {
			for _, x := range []byte{1, 2, 4, 8, 16, 32, 64, 128, 255, byte(1 + d.Below(255))} {
				b := bytes.Clone(a)
				b[at] ^= x
				refuses(t, fmt.Sprintf("archive %d with byte %d changed", i, at), b)
				if at < len(a)-4 && asWords(t, fmt.Sprintf("archive %d with byte %d changed, and the sum", i, at), resummed(b)) {
					others++
				}
			}
		}
	}
	if others < 100 {
		t.Errorf("%d other archives are few", others)
	}
	small := bytesOf([]api.Item{fileItem("/f", 1, 0), linkItem("/l", "x")})
	for at := range small {
		for x := 1; x < 256; x++ {
			b := bytes.Clone(small)
			b[at] ^= byte(x)
			refuses(t, fmt.Sprintf("byte %d changed by %d", at, x), b)
			if at < len(small)-4 {
				asWords(t, fmt.Sprintf("byte %d changed by %d, and the sum", at, x), resummed(b))
			}
		}
	}
}

// numbers are the places and widths of the numbers of the first item of an archive, a file.
var numbers = []struct{ at, width int }{{9, 2}, {13, 8}, {21, 4}, {25, 4}, {29, 4}}

// A number that is much greater than may be is refused, and nothing is waited for; also where the lower part of it would be right.
func TestP1502GreatNumbers(t *testing.T) {
	first := bytesOf([]api.Item{fileItem("/f", 600, 1024, run(0, 2))})
	lists(t, first, []api.Item{fileItem("/f", 600, 1024, run(0, 2))})
	for _, n := range numbers {
		for bit := range 8 * n.width {
			b := bytes.Clone(first)
			b[n.at+bit/8] ^= 1 << (bit % 8)
			asWords(t, fmt.Sprintf("the number at %d with bit %d turned", n.at, bit), resummed(b))
		}
		b := bytes.Clone(first)
		for i := range n.width {
			b[n.at+i] = 0xFF
		}
		refuses(t, fmt.Sprintf("the number at %d, all ones", n.at), resummed(b))
	}
	runs := append([]byte("vlmarch\x01"), 1, 2, 0, '/', 'f', 0, 2, 0, 0, 0, 0, 0, 0)
	runs = binary.LittleEndian.AppendUint32(runs, 400000)
	for range 400000 {
		runs = append(runs, 0, 0, 0, 0, 255, 255, 255, 255)
	}
	refuses(t, "runs of all the world", resummed(append(runs, make([]byte, 9+512)...)))
}

// Drawn archives to which drawn things were done, and whose sum is right.
func TestP1502Drawn(t *testing.T) {
	t.Parallel()
	d := site.Lister{Dice: trial.NewDice(1502)}
	taken, refused := 0, 0
	for range 6000 {
		items := d.Items()
		for range d.Below(2) {
			items = d.Spoil(items)
		}
		b := bytesOf(items)
		for range d.Below(3) {
			b = edited(d.Dice, b)
			if len(b) < 17 {
				break
			}
		}
		if asWords(t, "a drawn one", resummed(b)) {
			taken++
		} else {
			refused++
		}
		if junk := d.Bytes(d.Below(60)); d.Below(4) == 0 {
			refuses(t, "junk", junk)
			refuses(t, "junk behind a beginning", resummed(append([]byte("vlmarch\x01"), junk...)))
		}
	}
	if taken < 1000 || refused < 1000 {
		t.Errorf("the draw is thin: %d taken, %d refused", taken, refused)
	}
}

// What is handed in is not changed and not kept; what is answered is new memory, each list by itself.
func TestP2List(t *testing.T) {
	archive := bytesOf(append(sample(), fileItem("/d", 2000, 2048, run(0, 4))))
	was := bytes.Clone(archive)
	want := append(sample(), fileItem("/d", 2000, 2048, run(0, 4)))
	items, _ := dump.List(archive)
	for i := range archive {
		archive[i] = 0xEE
	}
	if !site.Same(items, want) {
		t.Error("P2: what List tells hangs on its argument's memory")
	}
	copy(archive, was)
	for i := range items {
		_ = append(items[i].Data, 7, 7, 7)
		_ = append(items[i].Runs, run(7, 7))
	}
	if !site.Same(items, want) || !bytes.Equal(archive, was) {
		t.Error("P2: what is appended to one list is seen in another")
	}
	for i := range items {
		for j := range items[i].Data {
			items[i].Data[j] = 0xEE
		}
		for j := range items[i].Runs {
			items[i].Runs[j] = run(-1, -1)
		}
		items[i].Path = ""
	}
	if !bytes.Equal(archive, was) {
		t.Error("P2: what List tells is its argument's memory")
	}
	lists(t, archive, want)
}
