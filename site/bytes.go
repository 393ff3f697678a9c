package site

import (
	"bytes"
	"slices"

	"vellum/codec"
	"vellum/trial"
)

// Resummed has in its last four bytes the sum of all ahead of them.
func Resummed(b []byte) []byte {
	b = bytes.Clone(b)
	if at := len(b) - 4; at >= 0 {
		sum := codec.Sum(b[:at])
		copy(b[at:], []byte{byte(sum), byte(sum >> 8), byte(sum >> 16), byte(sum >> 24)})
	}
	return b
}

// Edited does something to a list of more than three bytes.
func Edited(d *trial.Dice, b []byte) []byte {
	b = bytes.Clone(b)
	at := d.Below(len(b) - 3)
	switch d.Below(7) {
	case 0:
		return slices.Delete(b, at, at+1+d.Below(3))
	case 1:
		return slices.Insert(b, at, d.Bytes(1+d.Below(9))...)
	case 2:
		b[at] = byte(d.Below(6))
	case 3:
		b[at]++
	case 4:
		b[at]--
	case 5:
		copy(b[at:], b[d.Below(len(b)):])
	case 6:
		copy(b[at:], d.Bytes(1+d.Below(4)))
	}
	return b
}

// Cursor takes bytes in a row; too few of them: they are bad.
type Cursor struct {
	Left []byte
	Bad  bool
}

// Next takes so many bytes.
func (c *Cursor) Next(n uint64) []byte {
	if n > uint64(len(c.Left)) {
		c.Bad, c.Left = true, nil
		return nil
	}
	taken := c.Left[:n]
	c.Left = c.Left[n:]
	return taken
}

// Number takes a number of so many bytes, the lowest first.
func (c *Cursor) Number(width uint64) uint64 {
	var n uint64
	for i, x := range c.Next(width) {
		n += uint64(x) << (8 * i)
	}
	return n
}
