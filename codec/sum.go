package codec

// turned is the generator 0x1EDC6F41 with its bits in the other order, as the lowest bit of a byte goes first.
const turned = 0x82F63B78

// Sum is the CRC32C of the bytes.
func Sum(b []byte) int { return int(^through(halves(), ^uint32(0), b)) }

// halves tells what half a byte does to the register: 16 numbers are made faster than the 256 of a whole byte, and most lists are short.
func halves() [16]uint32 {
	var table [16]uint32
	for half := range table {
		register := uint32(half)
		for range 4 {
			low := register & 1
			register = register>>1 ^ turned*low
		}
		table[half] = register
	}
	return table
}

// through takes the register through the bytes, the lower half of each first.
func through(table [16]uint32, register uint32, b []byte) uint32 {
	for _, x := range b {
		register ^= uint32(x)
		register = register>>4 ^ table[register&15]
		register = register>>4 ^ table[register&15]
	}
	return register
}
