package seal_test

import (
	"encoding/binary"
	"hash/crc32"
	"math"

	"vellum/api"
)

// A plain model of the chapter's words: a sealed sector by the offsets of its table, the sum by the library's CRC32C. It shares nothing with the package but api.

// resum lays the right sum into a sector, whatever else stands there.
func resum(s []byte) []byte {
	summed := append(append([]byte{}, s[1:3]...), s[7:511]...)
	binary.LittleEndian.PutUint32(s[3:7], crc32.Checksum(summed, crc32.MakeTable(crc32.Castagnoli)))
	return s
}

// built is a sector of these parts, be they right or not.
func built(first byte, length int, body []byte, last byte) []byte {
	s := make([]byte, 512)
	s[0], s[511] = first, last
	binary.LittleEndian.PutUint16(s[1:3], uint16(length))
	copy(s[7:511], body)
	return resum(s)
}

func modelSeal(old, body []byte) ([]byte, api.Errno) {
	switch {
	case len(old) != 512:
		return nil, api.ErrLength
	case len(body) > 504:
		return nil, api.ErrLong
	}
	for turn := range byte(3) {
		if turn != old[0] && turn != old[511] {
			return built(turn, len(body), body, turn), api.OK
		}
	}
	panic("two ends have three turns")
}

func modelOpen(s []byte) ([]byte, api.Errno) {
	if len(s) != 512 {
		return nil, api.ErrLength
	}
	length := int(s[1]) + 256*int(s[2])
	if s[0] > 2 || s[511] != s[0] || length > 504 {
		return nil, api.ErrTorn
	}
	for _, x := range s[7+length : 511] {
		if x != 0 {
			return nil, api.ErrTorn
		}
	}
	if string(resum(append([]byte{}, s...))) != string(s) {
		return nil, api.ErrTorn
	}
	return s[7 : 7+length], api.OK
}

func modelSplice(a, b []byte, cut int) ([]byte, api.Errno) {
	switch {
	case len(a) != 512, len(b) != 512:
		return nil, api.ErrLength
	case cut < 0, cut > 512:
		return nil, api.ErrArg
	}
	return append(append([]byte{}, a[:cut]...), b[cut:]...), api.OK
}

// modelAnchor answers the number 0 for what is no anchor.
func modelAnchor(s []byte) (int, []byte) {
	body, e := modelOpen(s)
	if e != api.OK || len(body) < 8 {
		return 0, nil
	}
	number := binary.LittleEndian.Uint64(body)
	if number > math.MaxInt64 || number == 0 {
		return 0, nil
	}
	return int(number), body[8:]
}

func modelNewest(left, right []byte) (int, int, []byte, api.Errno) {
	if len(left) != 512 || len(right) != 512 {
		return 0, 0, nil, api.ErrLength
	}
	l, lData := modelAnchor(left)
	r, rData := modelAnchor(right)
	switch {
	case l == 0 && r == 0:
		return 0, 0, nil, api.ErrTorn
	case l >= r:
		return 0, l, lData, api.OK
	}
	return 1, r, rData, api.OK
}

func modelRenew(left, right []byte, number int, data []byte) (int, []byte, api.Errno) {
	slot, newest, _, e := modelNewest(left, right)
	switch {
	case e == api.ErrLength:
		return 0, nil, api.ErrLength
	case number < 1:
		return 0, nil, api.ErrArg
	case len(data) > 496:
		return 0, nil, api.ErrLong
	case e == api.OK && number <= newest:
		return 0, nil, api.ErrStale
	}
	body := append(binary.LittleEndian.AppendUint64(nil, uint64(number)), data...)
	if e == api.ErrTorn || slot == 1 {
		s, _ := modelSeal(left, body)
		return 0, s, api.OK
	}
	s, _ := modelSeal(right, body)
	return 1, s, api.OK
}

// dice draws the same numbers in every run.
type dice uint64

func (d *dice) below(n int) int {
	*d = *d*6364136223846793005 + 1442695040888963407
	return int(uint64(*d) >> 33 % uint64(n))
}

func (d *dice) bytes(n int) []byte {
	b := make([]byte, n)
	for i := range b {
		b[i] = byte(d.below(256))
	}
	return b
}
