package seal

import (
	"math"

	"vellum/api"
)

const (
	numberBytes = 8 // of an anchor's number, ahead of its data
	dataMax     = api.BodyMax - numberBytes
)

// none stands for the number of what is no anchor: every anchor's is above it.
const none = 0

// pair is the left sector and the right one, by their slots.
type pair [2]sector

// pairOf copies two lists, and says whether both are as long as a sector.
func pairOf(left, right []byte) (pair, bool) {
	l, lWhole := sectorOf(left)
	r, rWhole := sectorOf(right)
	return pair{l, r}, lWhole && rWhole
}

// anchor is what a sealed sector says as one of a pair.
type anchor struct {
	slot, number int
	data         []byte
}

// newest is the anchor with the greater number, the left one of two alike; its number is none if there is no anchor.
func (p *pair) newest() anchor {
	newest := anchor{number: none}
	for slot := range p {
		number, data := p[slot].anchor()
		if number > newest.number {
			newest = anchor{slot, number, data}
		}
	}
	return newest
}

// other is the slot that a new anchor may take: the newest stays till the new one is whole.
func (a anchor) other() int {
	if a.number == none {
		return 0
	}
	return 1 - a.slot
}

// anchor tells the sector's number and data, or none.
func (s *sector) anchor() (int, []byte) {
	body, ok := s.open()
	if !ok || len(body) < numberBytes {
		return none, nil
	}
	number := taken(body[:numberBytes:numberBytes])
	if number > math.MaxInt {
		return none, nil
	}
	return int(number), body[numberBytes:len(body):len(body)]
}

// anchorBody is the number and behind it the data.
func anchorBody(number int, data []byte) []byte {
	body := make([]byte, numberBytes, numberBytes+len(data))
	lay(body, uint64(number))
	return append(body, data...)
}
