package pool

import (
	"vellum/api"
	"vellum/halt"
)

// The home blocks of the bitmaps.
const (
	blockBitmap = 0
	nodeBitmap  = 1
)

// stock is what one of the bitmaps tells of. Beside the numbers that may be taken a bitmap has other bits, which nobody changes.
type stock struct {
	bitmap      int       // the home block in which it lies
	zero        int       // the number that its bit 0 stands for
	first, last int       // the numbers that may be taken
	none        api.Errno // what is answered where none is free
}

func (p *Pool) blocks() stock {
	l := p.Layout()
	return stock{bitmap: blockBitmap, zero: 0, first: l.Data, last: l.Blocks - 1, none: api.ErrNoSpace}
}

func (p *Pool) nodes() stock {
	return stock{bitmap: nodeBitmap, zero: 1, first: 1, last: p.Layout().Nodes, none: api.ErrNoNodes}
}

// take gives out the lowest free number.
func (p *Pool) take(s stock) int {
	bits := p.bits(s)
	for number := s.first; number <= s.last; number++ {
		if !bits.taken(number - s.zero) {
			bits.turn(number - s.zero)
			p.lay(s, bits)
			return number
		}
	}
	panic(s.none)
}

// drop makes a taken number free.
func (p *Pool) drop(s stock, number int) {
	halt.On(p.State())
	halt.If(number < s.first || number > s.last, api.ErrRange)
	bits := p.bits(s)
	halt.If(!bits.taken(number-s.zero), api.ErrFree)
	bits.turn(number - s.zero)
	p.lay(s, bits)
}

// left counts the free numbers.
func (p *Pool) left(s stock) int {
	bits := p.bits(s)
	free := 0
	for number := s.first; number <= s.last; number++ {
		if !bits.taken(number - s.zero) {
			free++
		}
	}
	return free
}

// bits is the bitmap as the transaction sees it.
func (p *Pool) bits(s stock) bitmap { return halt.Got(p.Get(s.bitmap)) }

func (p *Pool) lay(s stock, bits bitmap) { halt.On(p.Put(s.bitmap, bits)) }

// bitmap is a block of bits, the lowest of each byte first.
type bitmap []byte

// emptyBitmap is one in which just the first bits, so many, are taken.
func emptyBitmap(taken int) bitmap {
	bits := make(bitmap, api.Size)
	for bit := range taken {
		bits.turn(bit)
	}
	return bits
}

func (b bitmap) taken(bit int) bool { return b[bit/8]>>(bit%8)&1 == 1 }

func (b bitmap) turn(bit int) { b[bit/8] ^= 1 << (bit % 8) }
