package check

import (
	"slices"

	"vellum/api"
)

// bitmap is one of the two, as it is and as it should be.
type bitmap struct {
	home    int // its block
	is, due []byte
}

// bitmaps is phase 3.
func (im *image) bitmaps() []api.Fault {
	return slices.Concat(team(im.workers, []int{blockBitmap, nodeBitmap}, im.bitmap, lookAtBits)...)
}

func (im *image) bitmap(home int) bitmap {
	if home == nodeBitmap {
		return bitmap{home: home, is: im.block(home), due: im.nodeBits()}
	}
	return bitmap{home: home, is: im.block(home), due: im.blockBits()}
}

// blockBits is the bitmap of the blocks, as the layout and the pointers say it.
func (im *image) blockBits() []byte {
	bits := make([]byte, api.Size)
	for block, owned := range im.owned {
		if owned || block < im.layout.Data {
			setBit(bits, block)
		}
	}
	return bits
}

// nodeBits is the bitmap of the nodes, as the table says it.
func (im *image) nodeBits() []byte {
	bits := make([]byte, api.Size)
	for _, number := range im.numbers {
		setBit(bits, number-1)
	}
	return bits
}

// setBit sets a bit, the lowest of each byte being the first.
func setBit(bits []byte, bit int) { bits[bit/8] |= 1 << (bit % 8) }

func bitAt(bits []byte, bit int) int { return int(bits[bit/8] >> (bit % 8) & 1) }

func lookAtBits(b bitmap) []api.Fault {
	var faults []api.Fault
	for bit := range 8 * api.Size {
		if is := bitAt(b.is, bit); is != bitAt(b.due, bit) {
			faults = append(faults, b.fault(bit, is))
		}
	}
	return faults
}

func (b bitmap) fault(bit, is int) api.Fault {
	if b.home == nodeBitmap {
		return api.Fault{Kind: api.FNodeBit, Node: bit + 1, Other: is}
	}
	return api.Fault{Kind: api.FBlockBit, Block: bit, Other: is}
}
