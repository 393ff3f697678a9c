package wal

import (
	"iter"

	"vellum/api"
	"vellum/seal"
)

// Where the parts of a piece's body begin.
const (
	epochAt    = 0
	positionAt = 4
	indexAt    = 8
	countAt    = 10
	dataAt     = 12
)

// maxCount is how many sectors the longest record takes.
const maxCount = api.MaxRecord / api.DataMax

// sectorsOf is how many sectors a record of so many bytes takes.
func sectorsOf(size int) int { return (size + api.DataMax - 1) / api.DataMax }

// mark is what a sector of the ring says of itself; two of them are held against each other by ==.
type mark struct {
	epoch, position, index, count int
}

// next is the mark of the sector behind it in the same record.
func (m mark) next() mark {
	m.position++
	m.index++
	return m
}

// last says whether the record ends with it.
func (m mark) last() bool { return m.index == m.count-1 }

// piece is the part of a record that lies in one sector. A sector that says nothing is the zero piece, whose epoch no log has.
type piece struct {
	mark
	data []byte
}

// pieceOf reads whatever lies in a sector.
func pieceOf(sector []byte) piece {
	body, e := seal.Open(sector)
	if e != api.OK || len(body) < dataAt {
		return piece{}
	}
	return piece{
		mark: mark{
			epoch:    taken(body[epochAt:positionAt]),
			position: taken(body[positionAt:indexAt]),
			index:    taken(body[indexAt:countAt]),
			count:    taken(body[countAt:dataAt]),
		},
		data: body[dataAt:],
	}
}

// body is what is sealed of it.
func (p piece) body() []byte {
	body := make([]byte, dataAt, dataAt+len(p.data))
	lay(body[epochAt:positionAt], p.epoch)
	lay(body[positionAt:indexAt], p.position)
	lay(body[indexAt:countAt], p.index)
	lay(body[countAt:dataAt], p.count)
	return append(body, p.data...)
}

// is says whether it is the piece that is due there, with as many bytes as belong into it.
func (p piece) is(due mark) bool {
	if p.mark != due || p.count < 1 || p.count > maxCount {
		return false
	}
	if p.last() {
		return len(p.data) > 0
	}
	return len(p.data) == api.DataMax
}

// ring is what its sectors say, in their order.
type ring []piece

// from goes once around, from the sector of that position on; each piece comes with the position that is due there.
func (r ring) from(position int) iter.Seq2[int, piece] {
	return func(yield func(int, piece) bool) {
		for i := range r {
			due := position + i
			if !yield(due, r[due%len(r)]) {
				return
			}
		}
	}
}

// top is the greatest epoch that a sector says, of those that a log may have; 0 if there is none.
func (r ring) top() int {
	top := 0
	for _, p := range r {
		if p.epoch <= api.MaxEpoch {
			top = max(top, p.epoch)
		}
	}
	return top
}

// scan tells the records from the tail on, and the head: the place of the first one that is not there whole.
func (r ring) scan(epoch, tail int) ([][]byte, int) {
	var records [][]byte
	var record []byte // of the pieces since the head
	head := tail
	due := mark{epoch: epoch}
scan:
	for position, p := range r.from(tail) {
		due.position = position
		if due.index == 0 {
			due.count = p.count // the first piece says how many there are, and the others must agree
		}
		switch {
		case !p.is(due):
			break scan
		case p.last():
			records = append(records, append(record, p.data...))
			record, head = nil, position+1
			due.index = 0
		default:
			record = append(record, p.data...)
			due.index++
		}
	}
	return records, head
}

// lay fills the place with a number, its lowest byte first.
func lay(place []byte, number int) {
	for i := range place {
		place[i] = byte(number >> (8 * i))
	}
}

// taken is the number that was laid there.
func taken(place []byte) int {
	number := 0
	for i, x := range place {
		number |= int(x) << (8 * i)
	}
	return number
}
