package file

import (
	"iter"

	"vellum/api"
)

// stretch are the bytes from to to-1 of a content.
type stretch struct{ from, to int }

// below is as much of the n bytes from off on as lies below the size. (The sum of off and n may be more than an int can be.)
func below(size, off, n int) stretch {
	from := min(off, size)
	return stretch{from: from, to: from + min(n, size-from)}
}

// indexesTo is how many indexes have a byte below that place.
func indexesTo(place int) int { return (place + api.Size - 1) / api.Size }

// parts goes through the indexes of which the stretch has a byte, by rising ones, with what it has there.
func (s stretch) parts() iter.Seq2[int, stretch] {
	return func(yield func(int, stretch) bool) {
		for from := s.from; from < s.to; {
			index := from / api.Size
			part := stretch{from: from, to: min(s.to, (index+1)*api.Size)}
			if !yield(index, part) {
				return
			}
			from = part.to
		}
	}
}

// of are the bytes of a block in which the stretch, a part, lies.
func (s stretch) of(block []byte) []byte {
	at := s.from % api.Size
	return block[at : at+s.to-s.from]
}
