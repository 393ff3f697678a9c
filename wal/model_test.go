package wal_test

import (
	"bytes"
	"encoding/binary"
	"testing"

	"vellum/api"
	"vellum/disk"
	"vellum/seal"
	"vellum/wal"
)

// A plain model of the chapter's words: what Open must tell over the bytes of a disk. It shares nothing with the package but api and the seals.

// dice draws numbers, the same ones in every run.
type dice uint64

func newDice(seed int) *dice {
	d := dice(seed)
	return &d
}

func (d *dice) below(n int) int {
	*d = *d*6364136223846793005 + 1442695040888963407
	return int(uint64(*d)>>33) % n
}

func (d *dice) bytes(n int) []byte {
	list := make([]byte, n)
	for i := range list {
		list[i] = byte(d.below(256))
	}
	return list
}

func one[T any](d *dice, list ...T) T { return list[d.below(len(list))] }

// told is what Open and then Marks answer, and the greatest epoch that is found.
type told struct {
	epoch, tail, head, top int
	records                [][]byte
	e                      api.Errno
}

func sectorAt(image []byte, at int) []byte { return image[at*512 : at*512+512] }

func number(b []byte) int {
	n := 0
	for i := len(b) - 1; i >= 0; i-- {
		n = n*256 + int(b[i])
	}
	return n
}

// recordAt is the record at position p in epoch e: its bytes and its count, which is 0 if there is none.
func recordAt(bodies [][]byte, p, e int) ([]byte, int) {
	head := bodies[p%len(bodies)]
	if len(head) <= 12 {
		return nil, 0
	}
	c := number(head[10:12])
	if c < 1 || c > 17 {
		return nil, 0
	}
	var data []byte
	for i := 0; i < c; i++ {
		b := bodies[(p+i)%len(bodies)]
		if len(b) <= 12 || number(b[0:4]) != e || number(b[4:8]) != p+i || number(b[8:10]) != i || number(b[10:12]) != c {
			return nil, 0
		}
		if i != c-1 && len(b) != 504 {
			return nil, 0
		}
		data = append(data, b[12:]...)
	}
	return data, c
}

func modelOpen(image []byte, first, n int) told {
	_, anchor, data, e := seal.Newest(sectorAt(image, first), sectorAt(image, first+1))
	if e != api.OK {
		return told{e: api.ErrCorrupt}
	}
	epoch, tail := anchor/4294967296, anchor%4294967296
	if len(data) > 0 || epoch < 1 || epoch > 1<<30 || tail < 0 || tail > 1<<30 {
		return told{e: api.ErrCorrupt}
	}
	top := epoch
	bodies := make([][]byte, n)
	for i := range bodies {
		bodies[i], _ = seal.Open(sectorAt(image, first+2+i))
		if len(bodies[i]) >= 12 {
			if says := number(bodies[i][:4]); says >= 1 && says <= 1<<30 {
				top = max(top, says)
			}
		}
	}
	if top == 1<<30 {
		return told{e: api.ErrWorn}
	}
	m := told{epoch: epoch, tail: tail, head: tail, top: top}
	for {
		data, c := recordAt(bodies, m.head, epoch)
		if c == 0 {
			return m
		}
		m.records = append(m.records, data)
		m.head += c
	}
}

// part is the body of a sector of the ring.
func part(epoch, position, index, count int, data []byte) []byte {
	b := binary.LittleEndian.AppendUint32(nil, uint32(epoch))
	b = binary.LittleEndian.AppendUint32(b, uint32(position))
	b = binary.LittleEndian.AppendUint16(b, uint16(index))
	b = binary.LittleEndian.AppendUint16(b, uint16(count))
	return append(b, data...)
}

// parts are the bodies of a record at that position.
func parts(epoch, position int, data []byte) [][]byte {
	count := (len(data) + 491) / 492
	var list [][]byte
	for i := range count {
		list = append(list, part(epoch, position+i, i, count, data[i*492:min(len(data), i*492+492)]))
	}
	return list
}

// anchorOf is the body of an anchor.
func anchorOf(epoch, tail int, data ...byte) []byte {
	return append(binary.LittleEndian.AppendUint64(nil, uint64(epoch)<<32+uint64(tail)), data...)
}

// lay seals a body into a sector of an image.
func lay(image []byte, at int, body []byte) {
	s, e := seal.Seal(sectorAt(image, at), body)
	if e != api.OK {
		panic(e)
	}
	copy(sectorAt(image, at), s)
}

// laid is the image of a disk with a log in it: an anchor in slot 0, and the bodies at their positions from the tail on.
func laid(sectors, first, n, epoch, tail int, bodies ...[]byte) []byte {
	image := make([]byte, sectors*512)
	lay(image, first, anchorOf(epoch, tail))
	for i, b := range bodies {
		lay(image, first+2+(tail+i)%n, b)
	}
	return image
}

func sameRecords(a, b [][]byte) bool {
	if len(a) != len(b) {
		return false
	}
	for i := range a {
		if !bytes.Equal(a[i], b[i]) {
			return false
		}
	}
	return true
}

// sizes are for messages: records are long.
func sizes(records [][]byte) []int {
	list := []int{}
	for _, r := range records {
		list = append(list, len(r))
	}
	return list
}

// wantOpen opens a log over the image, and holds all that it answers and does against the model.
func wantOpen(t *testing.T, what string, image []byte, first, n int) (*disk.Disk, *wal.Log, told) {
	t.Helper()
	d, e := disk.Load(image)
	if e != api.OK {
		t.Fatalf("%s: Load: %v", what, e)
	}
	want := modelOpen(image, first, n)
	l, records, e := wal.Open(d, first, n)
	if e != want.e || !sameRecords(records, want.records) || (l == nil) != (e != api.OK) {
		t.Fatalf("%s: Open: a log %v, %v, %v, want %v, %v", what, l != nil, sizes(records), e, sizes(want.records), want.e)
	}
	flushes := 1
	if e != api.OK {
		flushes = 0
	}
	if c := d.Counts(); c.Writes != 0 || c.Flushes != flushes || c.Refused != 0 || c.Reads > 2*(n+2) || !bytes.Equal(d.Image(), image) {
		t.Fatalf("%s: Open: %+v, the image is the same: %v", what, c, bytes.Equal(d.Image(), image))
	}
	if d.Life() == 1 {
		t.Fatalf("%s: the disk is not taken", what)
	}
	if e != api.OK {
		return d, nil, want
	}
	if epoch, tail, head, e := l.Marks(); epoch != want.epoch || tail != want.tail || head != want.head || e != api.OK {
		t.Fatalf("%s: Marks %d, %d, %d, %v, want %d, %d, %d", what, epoch, tail, head, e, want.epoch, want.tail, want.head)
	}
	return d, l, want
}

// spoil changes something of one sector of the ring, so that it is nearly right.
func spoil(d *dice, image []byte, first, n int) {
	at := first + 2 + d.below(n)
	b, e := seal.Open(sectorAt(image, at))
	if e != api.OK || len(b) < 12 {
		b = part(1+d.below(3), d.below(40), 0, 1, d.bytes(1+d.below(20)))
	}
	bump := func(place []byte, by int) {
		v := number(place) + by
		for i := range place {
			place[i] = byte(v >> (8 * i))
		}
	}
	switch d.below(12) {
	case 0:
		bump(b[0:4], one(d, -1, 1, 1<<30, 1<<31))
	case 1:
		bump(b[4:8], one(d, -1, 1, n, -n, 1<<16, 1<<31))
	case 2:
		bump(b[8:10], one(d, -1, 1, 256, 17))
	case 3:
		bump(b[10:12], one(d, -1, 1, 256, 17, 18))
	case 4:
		b = b[:12]
	case 5:
		b = b[:one(d, 0, 4, 8, 11)]
	case 6:
		b = b[:12+d.below(len(b)-11)]
	case 7:
		b = append(b, d.bytes(504-len(b))...)
	case 8:
		b = d.bytes(d.below(505))
	case 9:
		copy(sectorAt(image, at), d.bytes(512))
		return
	case 10:
		sectorAt(image, at)[d.below(512)] ^= 1
		return
	case 11:
		clear(sectorAt(image, at))
		return
	}
	lay(image, at, b)
}

// drawn is the image of a log with records in it, some of them from before, some of them spoilt.
func drawn(d *dice, sectors, first, n int) []byte {
	image := d.bytes(sectors * 512)
	for i := range n {
		clear(sectorAt(image, first+2+i))
	}
	epoch := one(d, 1, 2, 255, 256, 1<<16, 1<<24+5, 1<<30-1, 1+d.below(1<<30-2))
	tail := one(d, 0, 0, 1, n-1, n, 255, 65535, 1<<30-5, 1<<30, d.below(1<<30))
	lay(image, first+d.below(2), anchorOf(epoch, tail))
	p := tail
	for p < tail+n && d.below(8) != 0 {
		for _, b := range parts(epoch, p, d.bytes(one(d, 1, 491, 492, 493, 984, 985, 8364, 1+d.below(3000)))) {
			lay(image, first+2+p%n, b) // one that is too long for the ring runs over what lies ahead of it
			p++
		}
	}
	for range d.below(4) {
		spoil(d, image, first, n)
	}
	if d.below(6) == 0 {
		lay(image, first+d.below(2), anchorOf(one(d, epoch, epoch-1, epoch+1, 1<<30, 1<<30+1, 0), one(d, tail, tail+1, p, 1<<30, 1<<30+1), d.bytes(d.below(2))...))
	}
	return image
}

func TestP403Drawn(t *testing.T) {
	d := newDice(403)
	full, records, bad := 0, 0, 0
	for range 3000 {
		n := one(d, 18, 18, 19, 25)
		first := d.below(4)
		image := drawn(d, first+2+n+d.below(3), first, n)
		_, l, want := wantOpen(t, "drawn", image, first, n)
		records += len(want.records)
		if want.head == want.tail+n {
			full++
		}
		if l == nil {
			bad++
		}
	}
	if full < 50 || records < 1000 || bad < 50 {
		t.Errorf("the draw is thin: %d full rings, %d records, %d refused", full, records, bad)
	}
}

// Whatever the disk holds, the records of before are never told again behind a Start.
func TestP404Drawn(t *testing.T) {
	d := newDice(404)
	for range 800 {
		n := one(d, 18, 19, 30)
		image := drawn(d, n+3, 1, n)
		disk, l, want := wantOpen(t, "drawn", image, 1, n)
		if l == nil || want.top+1 == 1<<30 { // behind a Start into the last epoch no Open follows
			continue
		}
		is(t, "Start", l.Start(), api.OK)
		marks(t, l, want.top+1, 0, 0)
		record := d.bytes(1 + d.below(2000))
		is(t, "Append", l.Append(record), api.OK)
		is(t, "Sync", l.Sync(), api.OK)
		disk.Crash(nil)
		tells(t, disk, 1, n, record)
	}
}

func TestP415AnyBytes(t *testing.T) {
	d := newDice(415)
	for _, sectors := range []int{20, 21, 40, 258, 300} {
		for range 20 {
			image := make([]byte, sectors*512)
			for at := range sectors {
				switch d.below(4) {
				case 0:
					copy(sectorAt(image, at), d.bytes(512))
				case 1:
					lay(image, at, d.bytes(d.below(505)))
				case 2:
					lay(image, at, part(1+d.below(2), d.below(20), d.below(3), 1+d.below(3), d.bytes(d.below(493))))
				}
			}
			for range 10 {
				first, n := d.below(sectors), 18+d.below(239)
				if first+2+n > sectors {
					first, n = 0, min(sectors-2, 256)
				}
				lay(image, first+d.below(2), anchorOf(1+d.below(2), d.below(20)))
				wantOpen(t, "any bytes", image, first, n)
			}
		}
	}
}
