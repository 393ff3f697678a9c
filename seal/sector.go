package seal

import (
	"vellum/api"
	"vellum/codec"
)

// Where the parts of a sealed sector begin.
const (
	turnAt   = 0
	lengthAt = 1
	sumAt    = 3
	bodyAt   = 7
	lastAt   = api.Size - 1 // the turn again
)

// turns is how many there are: with three of them one is left, whatever the two ends of a sector are.
const turns = 3

// sector is a value, so that two of them are held against each other by ==.
type sector [api.Size]byte

// sectorOf copies a list, and says whether it is as long as a sector.
func sectorOf(list []byte) (sector, bool) {
	if len(list) != api.Size {
		return sector{}, false
	}
	return sector(list), true
}

// cut ends with its third index, so that who appends to it does not write into the sector.
func (s *sector) cut(from, to int) []byte { return s[from:to:to] }

// nextTurn is unlike both ends of what lies there: so a mixture of the two contents begins and ends with unlike bytes.
func (s *sector) nextTurn() byte {
	turn := byte(0)
	for turn == s[turnAt] || turn == s[lastAt] {
		turn++
	}
	return turn
}

// sealed is the one sector with that turn and that body, which is not too long.
func sealed(turn byte, body []byte) sector {
	var s sector
	s[turnAt], s[lastAt] = turn, turn
	lay(s.cut(lengthAt, sumAt), uint64(len(body)))
	copy(s.cut(bodyAt, lastAt), body)
	lay(s.cut(sumAt, bodyAt), uint64(s.sum()))
	return s
}

// sum goes over all but the turns and itself; append makes new memory for it, as a cut has no spare room.
func (s *sector) sum() int {
	return codec.Sum(append(s.cut(lengthAt, sumAt), s.cut(bodyAt, lastAt)...))
}

// open tells the body, and whether the sector is sealed: it is just if sealing that body with that turn makes it again.
func (s *sector) open() ([]byte, bool) {
	length := taken(s.cut(lengthAt, sumAt))
	if s[turnAt] >= turns || length > api.BodyMax {
		return nil, false
	}
	body := s.cut(bodyAt, bodyAt+int(length))
	return body, sealed(s[turnAt], body) == *s
}

// lay fills the place with a number, its lowest byte first.
func lay(place []byte, number uint64) {
	for i := range place {
		place[i] = byte(number >> (8 * i))
	}
}

// taken is the number that was laid there.
func taken(place []byte) uint64 {
	number := uint64(0)
	for i, x := range place {
		number |= uint64(x) << (8 * i)
	}
	return number
}
